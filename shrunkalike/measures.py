"""How many meanings a lot has."""

from shrunkalike.cycles import count_and_longest
from shrunkalike.cycles import order_of
from shrunkalike.cycles import ring_in


class Measured:
    """Whether a lot has finitely many meanings."""

    def __init__(self, holds, number, longest, ring):
        self.holds = holds
        self.number = number
        self.longest = longest
        self.ring = ring

    def __bool__(self):
        return bool(self.holds)


def measured(lot):
    """Whether the lot has finitely many meanings: how many, or a ring."""
    order = order_of(lot.automaton)
    if len(order) < lot.automaton[0]:
        return Measured(False, None, None, ring_in(lot.automaton, order))
    number, longest = count_and_longest(lot.automaton, order)
    return Measured(True, number, longest, None)
