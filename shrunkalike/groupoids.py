"""Group books: what undoes signs, texts and lots, and the places at which signs begin."""

from shrunkalike.arrows import checked_arrows
from shrunkalike.books import over
from shrunkalike.checks import checked_text
from shrunkalike.errors import TooMany
from shrunkalike.least import MOST_KEPT_STATES
from shrunkalike.lots import kept_lot
from shrunkalike.mirrors import mirrored


def undo_signs(book):
    """The string of the undoing signs of all signs, in order."""
    arrows = checked_arrows(book)
    return "".join([arrows.undoing[sign] for sign in book.signs])


def places(book):
    """For each sign the pair of the place at which it begins and the place to which it leads."""
    arrows = checked_arrows(book)
    return tuple([(arrows.begins[sign], arrows.leads[sign]) for sign in book.signs])


def undone(book, text):
    """The end that undoes the text."""
    arrows = checked_arrows(book)
    return arrows.undone_text(over(book, checked_text(book.signs, text)))


def undone_lot(lot):
    """The lot of the meanings that undo a meaning of the lot."""
    undoing = checked_arrows(lot.book).undoing
    many, edges, ends = lot.automaton
    turned = [(state, undoing[sign], following) for state, sign, following in edges]
    # The sets of states that are met from behind are just the states of the least automaton.
    found = mirrored(lot.book.signs, (many, turned, ends), MOST_KEPT_STATES)
    if found is None:
        raise TooMany("state")
    return kept_lot(lot.book, found)
