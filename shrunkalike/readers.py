"""Readers: which texts are right, how far the others go on to right ones, and how to mend them."""

from shrunkalike.books import over
from shrunkalike.checks import LONGEST_TEXT
from shrunkalike.checks import automaton_of
from shrunkalike.checks import checked_text
from shrunkalike.errors import TooMany
from shrunkalike.leading import led
from shrunkalike.least import kept
from shrunkalike.lots import kept_lot
from shrunkalike.lots import whole
from shrunkalike.origins import free_deeds
from shrunkalike.prices import deeds_of
from shrunkalike.prices import led_cheaply
from shrunkalike.quotients import completing
from shrunkalike.quotients import fitting
from shrunkalike.quotients import lacking
from shrunkalike.quotients import some_ahead
from shrunkalike.weighing import Weighing
from shrunkalike.words import chain_of
from shrunkalike.words import is_read
from shrunkalike.words import least_words


class AllRight:
    """Whether all texts of an automaton are right."""

    def __init__(self, holds, text, at):
        self.holds = holds
        self.text = text
        self.at = at

    def __bool__(self):
        return bool(self.holds)


class Reader:
    """A goal: the texts whose meanings are in it are right."""

    def __init__(self, goal):
        self.goal = goal
        self._live = some_ahead(whole(goal.book), goal)

    @property
    def live(self):
        """The lot of the meanings of live texts."""
        return self._live

    def _end(self, text):
        """The meaning of a text that is passed."""
        book = self.goal.book
        return over(book, checked_text(book.signs, text))

    def _is_live(self, text):
        """Whether some text behind the text makes it right."""
        return is_read(self._live.automaton, over(self.goal.book, text))

    def right(self, text):
        """Whether the text is right."""
        return is_read(self.goal.automaton, self._end(text))

    def fault(self, text):
        """None if the text is right, otherwise the size of its longest live beginning, or -1."""
        if self.right(text):
            return None
        size = len(text)
        # Each beginning of a live text is live.
        while size >= 0 and not self._is_live(text[:size]):
            size -= 1
        return size

    def wanted(self, text):
        """The string of the signs that can follow on the way to a right text, and whether the text is right."""
        end = self._end(text)
        signs = "".join([sign for sign in self.goal.book.signs if self._is_live(end + sign)])
        return (signs, is_read(self.goal.automaton, end))

    def completion(self, text):
        """The least text that makes the text right when it is put behind it, or None."""
        book = self.goal.book
        found = least_words(book.signs, completing(book, chain_of(self._end(text)), self.goal.automaton), 1)
        return found[0] if found else None

    def fillings(self, ahead, behind):
        """The lot of the meanings that make a right text between the two texts."""
        first, last = chain_of(self._end(ahead)), chain_of(self._end(behind))
        return kept_lot(self.goal.book, kept(fitting(self.goal.book, first, last, self.goal.automaton)))

    def all_right(self, automaton):
        """Whether all texts of the automaton are right."""
        book = self.goal.book
        checked = automaton_of(book.signs, automaton)
        weighing = Weighing(book.signs, free_deeds(book), checked, True)
        found = led(weighing, checked, lacking(book, self.goal.automaton))
        if found is None:
            return AllRight(True, None, None)
        _, size, text, _ = found.value
        if size > LONGEST_TEXT:
            raise TooMany("sign")
        return AllRight(False, text, self.fault(text))

    def mending(self, text, prices, mends):
        """The least price for which rules and mends lead the text to a right one."""
        book = self.goal.book
        start = chain_of(checked_text(book.signs, text))
        return led_cheaply(book.signs, deeds_of(book, prices, mends), start, self.goal.automaton)
