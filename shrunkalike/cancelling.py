"""Whether all texts cancel, and whether all texts exchange."""

from shrunkalike.books import checked_book
from shrunkalike.books import over
from shrunkalike.quotients import completing
from shrunkalike.quotients import preparing
from shrunkalike.words import chain_of
from shrunkalike.words import least_words


class Cancels:
    """Whether texts mean the same whenever they do so ahead of, or behind, some text."""

    def __init__(self, holds, sign, pair):
        self.holds = holds
        self.sign = sign
        self.pair = pair

    def __bool__(self):
        return bool(self.holds)


class Exchanges:
    """Whether any two texts mean the same in either order."""

    def __init__(self, holds, pair):
        self.holds = holds
        self.pair = pair

    def __bool__(self):
        return bool(self.holds)


def met_pairs(book, sign, ahead):
    """Pairs of the least two ends that have one end beside the sign, which stands ahead or behind.

    Only ends of at most one sign are tried: longer ones that come of two ends have their far sign
    from both, and come of lesser ones when it is left out.
    """
    found = []
    end = chain_of(over(book, sign))
    for text in [""] + list(book.signs):
        if over(book, text) != text:
            continue
        goal = chain_of(text)
        met = completing(book, end, goal) if ahead else preparing(book, end, goal)
        words = least_words(book.signs, met, 2)
        if len(words) == 2:
            found.append((words[0], words[1]))
    return found


def cancelled(book, ahead):
    """Whether the book cancels ahead, or behind."""
    checked_book(book)
    for sign in book.signs:
        pairs = met_pairs(book, sign, ahead)
        if pairs:
            _, y, x = min([(len(y), y, x) for x, y in pairs])
            return Cancels(False, sign, (x, y))
    return Cancels(True, None, None)


def cancels_ahead(book):
    """Whether x and y mean the same whenever some text and then x means what it and then y does."""
    return cancelled(book, True)


def cancels_behind(book):
    """Whether x and y mean the same whenever x and then some text means what y and then it does."""
    return cancelled(book, False)


def exchanges(book):
    """Whether all texts x and then y mean the same as y and then x."""
    checked_book(book)
    for one in book.signs:
        for other in book.signs:
            if over(book, one + other) != over(book, other + one):
                return Exchanges(False, (one, other))
    return Exchanges(True, None)
