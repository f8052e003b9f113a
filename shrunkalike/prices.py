"""Rules and mends with prices, and how cheaply texts can be led to others."""

from shrunkalike.checks import LONGEST_TEXT
from shrunkalike.checks import automaton_of
from shrunkalike.checks import mends_of
from shrunkalike.checks import prices_of
from shrunkalike.errors import TooMany
from shrunkalike.leading import led
from shrunkalike.leading import run_of
from shrunkalike.machines import bits
from shrunkalike.weighing import Weighing

MOST_STEPS = 400


class Cheapest:
    """Whether some text of an automaton can be led to some text of a goal, and how cheaply."""

    def __init__(self, holds, price, text, goal_text, run):
        self.holds = holds
        self.price = price
        self.text = text
        self.goal_text = goal_text
        self.run = run

    def __bool__(self):
        return bool(self.holds)


def deeds_of(book, prices, mends):
    """The rules of the book and then the mends, all as triples with their prices."""
    checked = prices_of(len(book.rules), prices)
    rules = [(left, right, price) for (left, right), price in zip(book.rules, checked)]
    return rules + list(mends_of(book.signs, mends))


def price_table(book, prices, mends, automaton):
    """The ascending tuple of all triples that some priced run gives, each with its price."""
    deeds = deeds_of(book, prices, mends)
    checked = automaton_of(book.signs, automaton)
    weighing = Weighing(book.signs, deeds, checked, False)
    found = []
    for state in range(checked[0]):
        for sign in [""] + list(book.signs):
            first = weighing.key_of((state, sign, 0))
            for following in bits(weighing.forth[first // checked[0]]):
                price = weighing.worths[first + following][0]
                found.append((state, sign, following, price))
    return tuple(found)


def led_cheaply(signs, deeds, automaton, goal):
    """The least price for which the deeds lead some text of the automaton to some text of the goal."""
    weighing = Weighing(signs, deeds, automaton, True)
    found = led(weighing, automaton, goal)
    if found is None:
        return Cheapest(False, None, None, None, None)
    price, size, text, count = found.value
    if size > LONGEST_TEXT:
        raise TooMany("sign")
    if count > MOST_STEPS:
        raise TooMany("step")
    return Cheapest(True, price, text, found.goal_text, run_of(weighing, found.facts))


def cheapest(book, prices, mends, automaton, goal):
    """The least price for which some text of the automaton is led to some text of the goal."""
    deeds = deeds_of(book, prices, mends)
    checked = automaton_of(book.signs, automaton)
    return led_cheaply(book.signs, deeds, checked, automaton_of(book.signs, goal))
