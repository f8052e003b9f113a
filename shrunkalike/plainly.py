"""Whether an automaton can tell without shrinking which texts are in a lot."""

from shrunkalike.checks import checked_number
from shrunkalike.least import smallest
from shrunkalike.parting import sorted_out

HIGHEST_BOUND = 40


class Plainly:
    """Whether some automaton with few states accepts all texts whose meanings are in a lot."""

    def __init__(self, holds, automaton, meanings, parting):
        self.holds = holds
        self.automaton = automaton
        self.meanings = meanings
        self.parting = parting

    def __bool__(self):
        return bool(self.holds)


def parted_meanings(sorting):
    """One end of each class, ascending, and for each two of them a text that parts them."""
    order = sorted([(len(end), end, number) for number, end in enumerate(sorting.ends)])
    parting = []
    for i, (_, _, one) in enumerate(order):
        for j, (_, _, other) in enumerate(order):
            if i < j:
                parting.append((i, j, sorting.parted_by(one, other)))
    return tuple([end for _, end, _ in order]), tuple(parting)


def plainly(lot, most):
    """Whether some automaton of at most so many states accepts all texts whose meanings are in the lot."""
    checked_number(most, 1, HIGHEST_BOUND)
    sorting = sorted_out(lot, most)
    if len(sorting.ends) > most:
        meanings, parting = parted_meanings(sorting)
        return Plainly(False, None, meanings, parting)
    return Plainly(True, smallest(sorting.signs, sorting.nexts, sorting.accepting()), None, None)
