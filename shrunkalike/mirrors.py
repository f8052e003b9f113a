"""Ends that lead to a goal ahead of or behind others, found straight or in the mirror.

In the mirror all texts are read from behind, and what stood ahead stands behind. Sometimes the one
way meets far more sets of states than the other one, and nothing tells beforehand which; so both
are tried within a bound that grows until one of them gets through.
"""

from shrunkalike.least import smallest
from shrunkalike.machines import free_table
from shrunkalike.machines import mask_of
from shrunkalike.machines import spread_within
from shrunkalike.meetings import Ahead
from shrunkalike.meetings import Behind
from shrunkalike.meetings import least_met
from shrunkalike.meetings import rows_of
from shrunkalike.settling import least_rules

FIRST_BOUND = 1000
GROWTH = 4


def mirrored(signs, automaton, most):
    """The least automaton of the texts read from behind; None if more than most sets of states come up."""
    many, _, ends = automaton
    _, back = rows_of(signs, automaton)
    machine = (many, back, mask_of(ends), 1)
    nexts, accepting = spread_within(len(signs), machine, free_table(len(signs)), most)
    return None if nexts is None else smallest(signs, nexts, accepting)


def straight_met(signs, rules, partner, goal, ahead, most):
    """The least automaton of the ends that lead to the goal ahead of, or behind, ends of the partner; or None."""
    if ahead:
        return least_met(Ahead(signs, rules, partner, goal), most)
    return least_met(Behind(signs, rules, partner, goal), most)


def mirror_met(signs, rules, partner, goal, ahead, most):
    """The same, found in the mirror."""
    turned_partner = mirrored(signs, partner, most)
    turned_goal = mirrored(signs, goal, most)
    if turned_partner is None or turned_goal is None:
        return None
    turned_rules = [(left[::-1], right) for left, right in rules]
    found = straight_met(signs, turned_rules, turned_partner, turned_goal, not ahead, most)
    return None if found is None else mirrored(signs, found, most)


def met(book, partner, goal, ahead):
    """The least automaton, of whatever size, of the ends that lead to the goal beside ends of the partner."""
    signs, rules = book.signs, least_rules(book)
    most = FIRST_BOUND
    found = straight_met(signs, rules, partner, goal, ahead, most)
    while found is None:
        found = mirror_met(signs, rules, partner, goal, ahead, most)
        if found is None:
            most = most * GROWTH
            found = straight_met(signs, rules, partner, goal, ahead, most)
    return found
