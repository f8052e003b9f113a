"""Settled books, their least books, and whether books have the same ends."""

from shrunkalike.books import Book
from shrunkalike.books import checked_book
from shrunkalike.checks import ascending_texts
from shrunkalike.errors import Unlike
from shrunkalike.piles import ends_of_quarrel
from shrunkalike.piles import first_rights
from shrunkalike.piles import left_over
from shrunkalike.piles import overlaps_of


class Settled:
    """Whether each text has only one end."""

    def __init__(self, holds, meets, text, ends):
        self.holds = holds
        self.meets = meets
        self.text = text
        self.ends = ends

    def __bool__(self):
        return bool(self.holds)


class SameEnds:
    """Whether two books have the same ends for all texts."""

    def __init__(self, holds, text, one_end, other_end):
        self.holds = holds
        self.text = text
        self.one_end = one_end
        self.other_end = other_end

    def __bool__(self):
        return bool(self.holds)


class Says:
    """Whether one book says all that another one says."""

    def __init__(self, holds, number):
        self.holds = holds
        self.number = number

    def __bool__(self):
        return bool(self.holds)


def settled(book):
    """Whether the book is settled."""
    text = book.quarrel
    if text is not None:
        return Settled(False, None, text, ends_of_quarrel(book.rules, text))
    rights = first_rights(book.rules)
    texts = [met for met, _, _, _ in overlaps_of(book.rules)]
    meanings = {}
    for met in texts:
        if met not in meanings:
            meanings[met] = left_over(rights, met)
    return Settled(True, tuple([meanings[met] for met in texts]), None, None)


def has_proper_piece(text, texts):
    """Whether a proper piece of the text is one of the texts."""
    for start in range(len(text)):
        for end in range(start + 1, len(text) + 1):
            if end - start < len(text) and text[start:end] in texts:
                return True
    return False


def least_rules(book):
    """The rules of the least book of a settled book."""
    rights = first_rights(book.rules)
    lefts = [left for left in rights if not has_proper_piece(left, rights)]
    return tuple([(left, left_over(rights, left)) for left in ascending_texts(lefts)])


def least_book(book):
    """The least book of a settled book."""
    return Book(book.signs, least_rules(checked_book(book)))


def check_both(one, other):
    """Both books are settled, and have the same signs."""
    checked_book(one)
    checked_book(other)
    if one.signs != other.signs:
        raise Unlike("signs")


def same_ends(one, other):
    """Whether both books have the same ends for all texts."""
    check_both(one, other)
    mine, yours = first_rights(one.rules), first_rights(other.rules)
    # The least text whose ends differ is a left side of one of the two least books.
    lefts = {left: True for left, _ in least_rules(one) + least_rules(other)}
    for text in ascending_texts(list(lefts)):
        my_end, your_end = left_over(mine, text), left_over(yours, text)
        if my_end != your_end:
            return SameEnds(False, text, my_end, your_end)
    return SameEnds(True, None, None, None)


def says(one, other):
    """Whether the one says all that the other one says."""
    check_both(one, other)
    rights = first_rights(one.rules)
    for number, (left, right) in enumerate(other.rules):
        if left_over(rights, left) != left_over(rights, right):
            return Says(False, number)
    return Says(True, None)
