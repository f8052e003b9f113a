"""Single meanings: what undoes them, and what leads from one to another."""

from shrunkalike.books import checked_book
from shrunkalike.books import over
from shrunkalike.checks import checked_text
from shrunkalike.least import kept
from shrunkalike.lots import kept_lot
from shrunkalike.lots import whole
from shrunkalike.quotients import completing
from shrunkalike.quotients import joined
from shrunkalike.quotients import preparing
from shrunkalike.words import chain_of
from shrunkalike.words import is_read
from shrunkalike.words import least_words


def undoings(book, text):
    """The lots of the meanings that undo the text ahead, and behind."""
    checked_book(book)
    end = chain_of(over(book, checked_text(book.signs, text)))
    ahead = kept(preparing(book, end, chain_of("")))
    behind = kept(completing(book, end, chain_of("")))
    return (kept_lot(book, ahead), kept_lot(book, behind))


def unit_automaton(book):
    """The least automaton, of whatever size, of all units."""
    everything, nothing = whole(book).automaton, chain_of("")
    undone_behind = preparing(book, everything, nothing)
    undone_ahead = completing(book, everything, nothing)
    return joined(book, undone_behind, undone_ahead, "and")


def units(book):
    """The lot of all units."""
    return kept_lot(book, kept(unit_automaton(checked_book(book))))


def is_group(book):
    """Whether all meanings are units."""
    automaton = unit_automaton(checked_book(book))
    return all([is_read(automaton, over(book, sign)) for sign in book.signs])


def least_of(book, automaton):
    """The least text of the automaton, or None."""
    found = least_words(book.signs, automaton, 1)
    return found[0] if found else None


def around(book, one, other):
    """The pair of the least m, and for it the least n, such that m, the one, n lead to the other; or None."""
    beginnings = preparing(book, whole(book).automaton, chain_of(other))
    ahead = least_of(book, preparing(book, chain_of(one), beginnings))
    if ahead is None:
        return None
    return (ahead, least_of(book, completing(book, chain_of(over(book, ahead + one)), chain_of(other))))


def divides(book, one, other):
    """The least m with which the one and then m, m and then the one, mean the other; and m and n around it."""
    checked_book(book)
    end = over(book, checked_text(book.signs, one))
    goal = over(book, checked_text(book.signs, other))
    behind = least_of(book, completing(book, chain_of(end), chain_of(goal)))
    ahead = least_of(book, preparing(book, chain_of(end), chain_of(goal)))
    return (behind, ahead, around(book, end, goal))
