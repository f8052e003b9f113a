"""Sayings: two hands that pick meanings in turn."""

from shrunkalike.books import over
from shrunkalike.checks import checked_number
from shrunkalike.checks import checked_text
from shrunkalike.checks import is_row
from shrunkalike.errors import BadTurn
from shrunkalike.least import kept
from shrunkalike.lots import Lot
from shrunkalike.lots import check_alike
from shrunkalike.lots import kept_lot
from shrunkalike.quotients import completing
from shrunkalike.quotients import every_ahead
from shrunkalike.quotients import every_behind
from shrunkalike.quotients import joined
from shrunkalike.quotients import lacking
from shrunkalike.quotients import preparing
from shrunkalike.quotients import some_ahead
from shrunkalike.quotients import some_behind
from shrunkalike.words import chain_of
from shrunkalike.words import least_words

MOST_TURNS = 6
HANDS = ("some", "every")
SIDES = ("ahead", "behind")


class Saying:
    """A goal and turns, with the meanings from which `some` wins ahead of each turn."""

    def __init__(self, goal, turns):
        self.turns = turns_of(turns)
        for _, _, lot in self.turns:
            check_alike(goal, lot)
        self.goal = goal
        self.plan = plan_of(goal, self.turns)
        self.starts = self.plan[0]
        self.holds = "" in self.starts

    def __bool__(self):
        return bool(self.holds)

    def best(self, turn, stands):
        """The least pick with which the hand of the turn goes on to win, or None."""
        checked_number(turn, 0, len(self.turns) - 1)
        book = self.goal.book
        end = chain_of(over(book, checked_text(book.signs, stands)))
        hand, side, lot = self.turns[turn]
        aim = self.plan[turn + 1].automaton
        # What is picked ahead leads to the aim ahead of what stands.
        leading = preparing(book, end, aim) if side == "ahead" else completing(book, end, aim)
        winning = joined(book, lot.automaton, leading, "and" if hand == "some" else "less")
        found = least_words(book.signs, winning, 1)
        return found[0] if found else None

    def turned(self):
        """The saying with the hands exchanged and all other meanings as its goal."""
        rest = kept_lot(self.goal.book, kept(lacking(self.goal.book, self.goal.automaton)))
        turns = [("every" if hand == "some" else "some", side, lot) for hand, side, lot in self.turns]
        return Saying(rest, tuple(turns))


def is_turn(thing):
    """Whether the thing is a tuple of a hand, a side and a lot."""
    if not is_row(thing) or len(thing) != 3:
        return False
    hand, side, lot = thing
    return hand in HANDS and side in SIDES and isinstance(lot, Lot)


def turns_of(things):
    """The things as turns."""
    if not is_row(things) or len(things) > MOST_TURNS:
        raise BadTurn(-1)
    for place, thing in enumerate(things):
        if not is_turn(thing):
            raise BadTurn(place)
    return tuple([tuple(thing) for thing in things])


def ahead_of_turn(turn, goal):
    """The lot of the meanings from which `some` wins if the turn leads to the goal."""
    hand, side, lot = turn
    if side == "ahead":
        return some_behind(lot, goal) if hand == "some" else every_behind(lot, goal)
    return some_ahead(lot, goal) if hand == "some" else every_ahead(lot, goal)


def plan_of(goal, turns):
    """For each number of turns made the lot of the meanings from which `some` wins."""
    plan = [goal]
    for turn in turns[::-1]:
        plan.append(ahead_of_turn(turn, plan[-1]))
    return tuple(plan[::-1])


def put_beside(book, side, picked, stands):
    """The meaning of what was picked, put ahead of or behind what stands."""
    return over(book, picked + stands if side == "ahead" else stands + picked)
