"""The least texts from which closed edges come, and whether all ends are texts of a goal."""

from shrunkalike.checks import LONGEST_TEXT
from shrunkalike.checks import automaton_of
from shrunkalike.checks import is_edge
from shrunkalike.closures import closed_machine
from shrunkalike.errors import NoEdge
from shrunkalike.errors import TooMany
from shrunkalike.leading import led
from shrunkalike.leading import run_of
from shrunkalike.machines import least_lacking
from shrunkalike.machines import machine_of
from shrunkalike.machines import piece_table
from shrunkalike.machines import trimmed
from shrunkalike.weighing import Weighing
from shrunkalike.words import chain_of


class AllEnd:
    """Whether all ends of all texts of an automaton are texts of a goal."""

    def __init__(self, holds, end, text):
        self.holds = holds
        self.end = end
        self.text = text

    def __bool__(self):
        return bool(self.holds)


def free_deeds(book):
    """The rules of the book as deeds that cost nothing."""
    return [(left, right, 0) for left, right in book.rules]


def origin(book, automaton, edge):
    """The least text that shrinks to the closed edge, with a run that leads to it."""
    checked = automaton_of(book.signs, automaton)
    if not is_edge(book.signs, checked[0], edge):
        raise NoEdge(edge)
    weighing = Weighing(book.signs, free_deeds(book), checked, True, edge)
    if not weighing.found(edge):
        raise NoEdge(edge)
    key = weighing.key_of(edge)
    _, size, text, _ = weighing.worths[key]
    if size > LONGEST_TEXT:
        raise TooMany("sign")
    return (text, run_of(weighing, [key]))


def all_end(book, automaton, goal):
    """Whether all ends of all texts of the automaton are texts of the goal."""
    signs = book.signs
    checked = automaton_of(signs, automaton)
    yours = machine_of(signs, automaton_of(signs, goal))
    mine = trimmed(len(signs), closed_machine(signs, book.rules, checked))
    end = least_lacking(signs, mine, yours, piece_table(signs, book.rules))
    if end is None:
        return AllEnd(True, None, None)
    if len(end) > LONGEST_TEXT:
        raise TooMany("sign")
    weighing = Weighing(signs, free_deeds(book), checked, True)
    _, size, text, _ = led(weighing, checked, chain_of(end)).value
    if size > LONGEST_TEXT:
        raise TooMany("sign")
    return AllEnd(False, end, text)
