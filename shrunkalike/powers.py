"""The powers of a text."""

from shrunkalike.automata import smallest_of_machine
from shrunkalike.books import checked_book
from shrunkalike.books import over
from shrunkalike.checks import checked_text
from shrunkalike.closures import closed_machine
from shrunkalike.cycles import is_endless
from shrunkalike.errors import TooMany
from shrunkalike.machines import piece_table
from shrunkalike.piles import first_rights
from shrunkalike.piles import left_behind
from shrunkalike.words import chain_of
from shrunkalike.words import is_read
from shrunkalike.words import ring_of

MOST_POWERS = 200
HIGHEST_POWER = 400


def power_automaton(book, end):
    """The least automaton, of whatever size, of all powers of the end."""
    machine = closed_machine(book.signs, book.rules, ring_of(chain_of(end)))
    return smallest_of_machine(book.signs, machine, piece_table(book.signs, book.rules))


def different_powers(book, end, highest):
    """All different powers in order, each with its number, and the first one that comes again or None.

    They are looked for up to the highest number.
    """
    rights = first_rights(book.rules)
    found = {}
    stands = ""
    while stands not in found and len(found) <= highest:
        found[stands] = len(found)
        stands = left_behind(rights, stands, end, True)
    return found, stands if stands in found else None


def powers(book, text):
    """None if all powers of the text are different, otherwise the index and the period."""
    checked_book(book)
    end = over(book, checked_text(book.signs, text))
    found, again = different_powers(book, end, MOST_POWERS - 1)
    if again is not None:
        return (found[again], len(found) - found[again])
    if is_endless(power_automaton(book, end)):
        return None
    raise TooMany("power")


def power(book, text, goal):
    """The least number of a power of the text that means the goal, or None."""
    checked_book(book)
    end = over(book, checked_text(book.signs, text))
    aim = over(book, checked_text(book.signs, goal))
    found, again = different_powers(book, end, HIGHEST_POWER)
    if aim in found:
        return found[aim]
    if again is None and is_read(power_automaton(book, end), aim):
        raise TooMany("power")
    return None
