"""What must stand behind, ahead of and between the meanings of lots so that a goal comes out."""

from shrunkalike.least import kept
from shrunkalike.least import smallest
from shrunkalike.lots import check_alike
from shrunkalike.lots import kept_lot
from shrunkalike.lots import whole
from shrunkalike.mirrors import met
from shrunkalike.words import pairs_of


def joined(book, one, other, how):
    """The least automaton, of whatever size, of two put together as the word tells."""
    nexts, accepting = pairs_of(book.signs, one, other, how)
    return smallest(book.signs, nexts, accepting)


def lacking(book, automaton):
    """The least automaton of the ends that the automaton of ends does not accept."""
    return joined(book, whole(book).automaton, automaton, "less")


def completing(book, first, goal):
    """The least automaton of the ends that lead to the goal behind some end of the first."""
    return met(book, first, goal, False)


def preparing(book, last, goal):
    """The least automaton of the ends that lead to the goal ahead of some end of the last."""
    return met(book, last, goal, True)


def always_completing(book, first, goal):
    """The least automaton of the ends that lead to the goal behind each end of the first."""
    return lacking(book, completing(book, first, lacking(book, goal)))


def always_preparing(book, last, goal):
    """The least automaton of the ends that lead to the goal ahead of each end of the last."""
    return lacking(book, preparing(book, last, lacking(book, goal)))


def fitting(book, first, last, goal):
    """The least automaton of the ends that lead to the goal between some ends of the first and the last."""
    return completing(book, first, preparing(book, last, goal))


def some_behind(first, goal):
    """The lot of the meanings that complete the first to the goal for some text."""
    check_alike(first, goal)
    return kept_lot(goal.book, kept(completing(goal.book, first.automaton, goal.automaton)))


def every_behind(first, goal):
    """The lot of the meanings that complete the first to the goal for every text."""
    check_alike(first, goal)
    return kept_lot(goal.book, kept(always_completing(goal.book, first.automaton, goal.automaton)))


def some_ahead(last, goal):
    """The lot of the meanings that prepare the last for the goal for some text."""
    check_alike(last, goal)
    return kept_lot(goal.book, kept(preparing(goal.book, last.automaton, goal.automaton)))


def every_ahead(last, goal):
    """The lot of the meanings that prepare the last for the goal for every text."""
    check_alike(last, goal)
    return kept_lot(goal.book, kept(always_preparing(goal.book, last.automaton, goal.automaton)))


def between(first, last, goal):
    """The lot of the meanings that fit between the first and the last on the way to the goal."""
    check_alike(first, last)
    check_alike(last, goal)
    return kept_lot(goal.book, kept(fitting(goal.book, first.automaton, last.automaton, goal.automaton)))
