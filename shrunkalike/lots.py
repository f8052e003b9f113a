"""Lots: sets of meanings of a settled book."""

from shrunkalike.automata import least_of_machine
from shrunkalike.books import checked_book
from shrunkalike.books import over
from shrunkalike.checks import automaton_of
from shrunkalike.checks import checked_number
from shrunkalike.checks import checked_text
from shrunkalike.closures import closed_machine
from shrunkalike.errors import Unlike
from shrunkalike.least import kept
from shrunkalike.least import smallest
from shrunkalike.machines import free_table
from shrunkalike.machines import least_lacking
from shrunkalike.machines import machine_of
from shrunkalike.machines import piece_table
from shrunkalike.words import chain_of
from shrunkalike.words import count_of_size
from shrunkalike.words import is_read
from shrunkalike.words import least_words
from shrunkalike.words import pairs_of
from shrunkalike.words import ring_of
from shrunkalike.words import row_of

NO_TEXT = (1, (), ())
MOST_LISTED = 200
LONGEST_COUNTED = 200


class Lot:
    """The meanings of all texts of an automaton."""

    def __init__(self, book, automaton):
        checked_book(book)
        self.book = book
        self.automaton = meanings_of(book, automaton_of(book.signs, automaton))

    def __eq__(self, other):
        return isinstance(other, Lot) and self.book == other.book and self.automaton == other.automaton

    def __contains__(self, text):
        checked_text(self.book.signs, text)
        return is_read(self.automaton, over(self.book, text))

    def __or__(self, other):
        return kept_lot(self.book, put_together(self, other, "or"))

    def __and__(self, other):
        return kept_lot(self.book, put_together(self, other, "and"))

    def __sub__(self, other):
        return kept_lot(self.book, put_together(self, other, "less"))

    def __mul__(self, other):
        check_alike(self, other)
        return kept_lot(self.book, meanings_of(self.book, row_of(self.automaton, other.automaton)))

    def again(self):
        """The repetition of the lot."""
        return kept_lot(self.book, meanings_of(self.book, ring_of(self.automaton)))

    def least(self):
        """The least end, or None if the lot is empty."""
        found = least_words(self.book.signs, self.automaton, 1)
        return found[0] if found else None

    def listed(self, many):
        """The ascending tuple of so many least ends, or of all."""
        checked_number(many, 0, MOST_LISTED)
        return tuple(least_words(self.book.signs, self.automaton, many))

    def counted(self, size):
        """The number of the ends with so many signs."""
        checked_number(size, 0, LONGEST_COUNTED)
        return count_of_size(self.automaton, size)


class LiesWithin:
    """Whether each meaning of one lot is in another one."""

    def __init__(self, holds, end):
        self.holds = holds
        self.end = end

    def __bool__(self):
        return bool(self.holds)


def meanings_of(book, automaton):
    """The least automaton of the ends of all texts of the automaton."""
    machine = closed_machine(book.signs, book.rules, automaton)
    return least_of_machine(book.signs, machine, piece_table(book.signs, book.rules))


def kept_lot(book, automaton):
    """The lot of a settled book that has this least automaton."""
    made = Lot(book, NO_TEXT)
    made.automaton = automaton
    return made


def check_alike(one, other):
    """Both lots are of one book."""
    if one.book != other.book:
        raise Unlike("book")


def put_together(one, other, how):
    """The least automaton of the ends in the lots, put together as the word tells."""
    check_alike(one, other)
    signs = one.book.signs
    nexts, accepting = pairs_of(signs, one.automaton, other.automaton, how)
    return kept(smallest(signs, nexts, accepting))


def whole(book):
    """The lot of all meanings."""
    checked_book(book)
    table = piece_table(book.signs, book.rules)
    accepting = [True] * (len(table) // len(book.signs))
    return kept_lot(book, kept(smallest(book.signs, table, accepting)))


def single(book, text):
    """The lot with the meaning of the text alone."""
    return kept_lot(book, chain_of(meaning(book, text)))


def meaning(book, text):
    """The end of the text."""
    checked_book(book)
    return over(book, checked_text(book.signs, text))


def alike(book, one, other):
    """Whether both texts mean the same."""
    return meaning(book, one) == meaning(book, other)


def lies_within(one, other):
    """Whether each meaning of the one is in the other one."""
    check_alike(one, other)
    signs = one.book.signs
    mine, yours = machine_of(signs, one.automaton), machine_of(signs, other.automaton)
    end = least_lacking(signs, mine, yours, free_table(len(signs)))
    return LiesWithin(end is None, end)
