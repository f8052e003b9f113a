"""Tables of the meanings of a book."""

from shrunkalike.cycles import count_and_longest
from shrunkalike.cycles import order_of
from shrunkalike.cycles import ring_in
from shrunkalike.errors import TooMany
from shrunkalike.books import over
from shrunkalike.lots import whole
from shrunkalike.words import least_words

MOST_MEANINGS = 60


class Table:
    """Whether a book has finitely many meanings, and what each two of them come to."""

    def __init__(self, holds, ends, rows, ring):
        self.holds = holds
        self.ends = ends
        self.rows = rows
        self.ring = ring

    def __bool__(self):
        return bool(self.holds)


def table(book):
    """The table of all meanings, or a ring of them."""
    automaton = whole(book).automaton
    order = order_of(automaton)
    if len(order) < automaton[0]:
        return Table(False, None, None, ring_in(automaton, order))
    number, _ = count_and_longest(automaton, order)
    if number > MOST_MEANINGS:
        raise TooMany("meaning")
    ends = least_words(book.signs, automaton, number)
    places = {end: place for place, end in enumerate(ends)}
    rows = [tuple([places[over(book, one + other)] for other in ends]) for one in ends]
    return Table(True, tuple(ends), tuple(rows), None)
