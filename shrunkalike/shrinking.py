"""Steps, runs, and all texts to which a text shrinks."""

from shrunkalike.checks import ascending_texts
from shrunkalike.checks import checked_text
from shrunkalike.checks import is_between
from shrunkalike.checks import is_row
from shrunkalike.errors import BadRun
from shrunkalike.errors import NoStep
from shrunkalike.errors import TooMany
from shrunkalike.piles import numbers_of
from shrunkalike.piles import overlaps_of
from shrunkalike.piles import steps_of
from shrunkalike.piles import used

LONGEST_RUN = 400
MOST_TEXTS = 2000


def steps(book, text):
    """The ascending tuple of all steps of the text."""
    return tuple(steps_of(numbers_of(book.rules), checked_text(book.signs, text)))


def is_step(book, text, place, number):
    """Whether the place and the number are a step of the text."""
    if not is_between(place, 0, len(text)) or not is_between(number, 0, len(book.rules) - 1):
        return False
    left = book.rules[number][0]
    return text[place:place + len(left)] == left


def step(book, text, place, number):
    """The text to which the step leads."""
    checked_text(book.signs, text)
    if not is_step(book, text, place, number):
        raise NoStep(place, number)
    return used(book.rules, text, place, number)


def played(book, text, run):
    """The tuple of all texts of the run, from the text itself to the last one."""
    stands = checked_text(book.signs, text)
    if not is_row(run) or len(run) > LONGEST_RUN:
        raise BadRun(-1)
    found = [stands]
    for at, thing in enumerate(run):
        if not is_row(thing) or len(thing) != 2 or not is_step(book, stands, thing[0], thing[1]):
            raise BadRun(at)
        stands = used(book.rules, stands, thing[0], thing[1])
        found.append(stands)
    return tuple(found)


def all_shrunk(book, text):
    """All texts to which the text shrinks, each with True if it is an end."""
    numbers = numbers_of(book.rules)
    found = {text: True}
    waiting = [text]
    while waiting:
        stands = waiting.pop()
        for place, number in steps_of(numbers, stands):
            found[stands] = False
            aim = used(book.rules, stands, place, number)
            if aim not in found:
                found[aim] = True
                waiting.append(aim)
        if len(found) > MOST_TEXTS:
            raise TooMany("text")
    return found


def shrinks(book, text):
    """The ascending tuple of all texts to which the text shrinks."""
    return ascending_texts(list(all_shrunk(book, checked_text(book.signs, text))))


def ends(book, text):
    """The ascending tuple of all ends of the text."""
    found = all_shrunk(book, checked_text(book.signs, text))
    return ascending_texts([stands for stands, last in found.items() if last])


def overlaps(book):
    """The ascending tuple of all overlaps."""
    return overlaps_of(book.rules)
