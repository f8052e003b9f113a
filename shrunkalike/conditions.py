"""Conditions on an unknown meaning, and all meanings for which they hold."""

from shrunkalike.books import checked_book
from shrunkalike.books import over
from shrunkalike.checks import LONGEST_TEXT
from shrunkalike.checks import is_row
from shrunkalike.checks import is_text
from shrunkalike.errors import BadCondition
from shrunkalike.least import kept
from shrunkalike.lots import kept_lot
from shrunkalike.lots import whole
from shrunkalike.quotients import fitting
from shrunkalike.quotients import joined
from shrunkalike.words import chain_of

MOST_CONDITIONS = 8


def is_condition(signs, thing):
    """Whether the thing is a tuple of three texts and True or False."""
    if not is_row(thing) or len(thing) != 4 or not isinstance(thing[3], bool):
        return False
    return all([is_text(signs, text, LONGEST_TEXT) for text in thing[:3]])


def conditions_of(signs, things):
    """The things as conditions."""
    if not is_row(things) or len(things) > MOST_CONDITIONS:
        raise BadCondition(-1)
    for place, thing in enumerate(things):
        if not is_condition(signs, thing):
            raise BadCondition(place)
    return [tuple(thing) for thing in things]


def solutions(book, conditions):
    """The lot of all meanings for which all conditions hold."""
    checked_book(book)
    checked = conditions_of(book.signs, conditions)
    found = whole(book).automaton
    for ahead, behind, goal, like in checked:
        first, last, aim = [chain_of(over(book, text)) for text in (ahead, behind, goal)]
        met = fitting(book, first, last, aim)
        found = joined(book, found, met, "and" if like else "less")
    return kept_lot(book, kept(found))
