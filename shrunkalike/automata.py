"""Automata: the texts that they accept, least automata, and which texts lie within others."""

from shrunkalike.checks import automaton_of
from shrunkalike.checks import checked_signs
from shrunkalike.checks import checked_text
from shrunkalike.least import kept
from shrunkalike.least import smallest
from shrunkalike.machines import free_table
from shrunkalike.machines import is_taken
from shrunkalike.machines import least_lacking
from shrunkalike.machines import machine_of
from shrunkalike.machines import spread
from shrunkalike.machines import trimmed


class Within:
    """Whether the texts of one automaton lie within those of another one."""

    def __init__(self, holds, text):
        self.holds = holds
        self.text = text

    def __bool__(self):
        return bool(self.holds)


def checked_automaton(signs, thing):
    """The automaton as tuples."""
    return automaton_of(checked_signs(signs), thing)


def accepts(signs, automaton, text):
    """Whether the automaton accepts the text."""
    machine = machine_of(signs, checked_automaton(signs, automaton))
    return is_taken(signs, machine, checked_text(signs, text))


def smallest_of_machine(signs, machine, table):
    """The least automaton, of whatever size, of the machine's texts that the table lets pass."""
    nexts, accepting = spread(len(signs), trimmed(len(signs), machine), table)
    return smallest(signs, nexts, accepting)


def least_of_machine(signs, machine, table):
    """The least automaton of the machine's texts that the table lets pass, if it is not too large."""
    return kept(smallest_of_machine(signs, machine, table))


def least_automaton(signs, automaton):
    """The least automaton that accepts the same texts."""
    machine = machine_of(signs, checked_automaton(signs, automaton))
    return least_of_machine(signs, machine, free_table(len(signs)))


def within(signs, one, other):
    """Whether the other one accepts all texts that the one accepts."""
    mine = machine_of(signs, checked_automaton(signs, one))
    yours = machine_of(signs, checked_automaton(signs, other))
    text = least_lacking(signs, trimmed(len(signs), mine), yours, free_table(len(signs)))
    return Within(text is None, text)
