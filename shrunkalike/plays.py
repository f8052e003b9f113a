"""Plays of sayings, pick by pick."""

from shrunkalike.errors import NoDeed
from shrunkalike.errors import NoTurn
from shrunkalike.errors import NotInLot
from shrunkalike.lots import meaning
from shrunkalike.sayings import put_beside
from shrunkalike.words import is_read


class Play:
    """A start, the picks made so far, and what stands behind each of them."""

    def __init__(self, saying, start):
        self.saying = saying
        self.picks = ()
        self._stood = (meaning(saying.goal.book, start),)

    @property
    def start(self):
        """The meaning that stands at first."""
        return self._stood[0]

    @property
    def stands(self):
        """The meaning that stands now."""
        return self._stood[-1]

    @property
    def turn(self):
        """The number of the turn that is to be made next."""
        return len(self.picks)

    @property
    def winner(self):
        """The hand that wins from here."""
        lot = self.saying.plan[len(self.picks)]
        return "some" if is_read(lot.automaton, self._stood[-1]) else "every"

    @property
    def over(self):
        """Whether all turns have been made."""
        return len(self.picks) == len(self.saying.turns)

    def pick(self, text):
        """A pick is made by a text; told is what stands then."""
        if len(self.picks) == len(self.saying.turns):
            raise NoTurn()
        book = self.saying.goal.book
        _, side, lot = self.saying.turns[len(self.picks)]
        picked = meaning(book, text)
        if not is_read(lot.automaton, picked):
            raise NotInLot(picked)
        self._stood = self._stood + (put_beside(book, side, picked, self._stood[-1]),)
        self.picks = self.picks + (picked,)
        return self._stood[-1]

    def undo(self):
        """The last pick is taken back; told is what stands then."""
        if not self.picks:
            raise NoDeed("undo")
        self.picks = self.picks[:-1]
        self._stood = self._stood[:-1]
        return self._stood[-1]
