"""Desks: a settled book whose rules come and go, and claims about it."""

from shrunkalike.books import Book
from shrunkalike.books import checked_book
from shrunkalike.checks import MOST_RULES
from shrunkalike.checks import checked_number
from shrunkalike.checks import is_row
from shrunkalike.checks import is_rule
from shrunkalike.errors import BadExpression
from shrunkalike.errors import BadRule
from shrunkalike.errors import BadText
from shrunkalike.errors import BadTitle
from shrunkalike.errors import BadTurn
from shrunkalike.errors import NoDeed
from shrunkalike.errors import TooMany
from shrunkalike.errors import Twice
from shrunkalike.errors import Unknown
from shrunkalike.expressions import parse
from shrunkalike.sayings import HANDS
from shrunkalike.sayings import MOST_TURNS
from shrunkalike.sayings import SIDES
from shrunkalike.sayings import Saying
from shrunkalike.values import value_of

MOST_CLAIMS = 20
LONGEST_TITLE = 8


class Desk:
    """A settled book, claims about it, and all deeds that can be undone or done again.

    A stage is a triple of the book, the claims and the verdicts. All stages are kept, and the
    number of the one that stands now.
    """

    def __init__(self, signs, rules):
        self._stages = [(checked_book(Book(signs, rules)), (), ())]
        self._now = 0

    @property
    def current_book(self):
        """The book as it is."""
        return self._stages[self._now][0]

    @property
    def claims(self):
        """The tuple of all claims, each with its title, its turns and its goal."""
        return self._stages[self._now][1]

    @property
    def verdicts(self):
        """The tuple of all titles, each with whether the claim holds."""
        return self._stages[self._now][2]

    def _go(self, stages, now):
        """The desk is at another stage; told are the titles of the claims that turned."""
        before = self.verdicts
        self._stages = stages
        self._now = now
        return turned_titles(before, self.verdicts)

    def _do(self, book, claims, kept_verdicts):
        """A deed is done that leads to the book and the claims; some verdicts may be known."""
        verdicts = verdicts_of(book, claims, kept_verdicts)
        return self._go(self._stages[:self._now + 1] + [(book, claims, verdicts)], self._now + 1)

    def add_rule(self, left, right):
        """The rule is put behind the others."""
        book = self.current_book
        rules = book.rules
        if not is_rule(book.signs, (left, right)) or (left, right) in rules:
            raise BadRule(len(rules))
        if len(rules) == MOST_RULES:
            raise TooMany("rule")
        return self._do(checked_book(Book(book.signs, rules + ((left, right),))), self.claims, ())

    def strike_rule(self, number):
        """The rule of this number is taken out."""
        book = self.current_book
        rules = book.rules
        checked_number(number, 0, len(rules) - 1)
        return self._do(checked_book(Book(book.signs, rules[:number] + rules[number + 1:])), self.claims, ())

    def add_claim(self, title, turns, goal):
        """The claim is put behind the others."""
        signs = self.current_book.signs
        check_title(title)
        if title in titles_of(self.claims):
            raise Twice(title)
        if len(self.claims) == MOST_CLAIMS:
            raise TooMany("claim")
        claim = (title, claim_turns(signs, turns), goal)
        parse(signs, goal)
        return self._do(self.current_book, self.claims + (claim,), self.verdicts)

    def drop_claim(self, title):
        """The claim is taken out."""
        if title not in titles_of(self.claims):
            raise Unknown(title)
        rest = tuple([claim for claim in self.claims if claim[0] != title])
        return self._do(self.current_book, rest, self.verdicts)

    def undo(self):
        """The last deed is undone."""
        if self._now == 0:
            raise NoDeed("undo")
        return self._go(self._stages, self._now - 1)

    def redo(self):
        """The deed that was undone last is done again."""
        if self._now + 1 == len(self._stages):
            raise NoDeed("redo")
        return self._go(self._stages, self._now + 1)

    def twin(self):
        """A copy of the desk."""
        made = Desk(self.current_book.signs, ())
        made._stages = list(self._stages)
        made._now = self._now
        return made


def titles_of(claims):
    """The titles of the claims, in order."""
    return [title for title, _, _ in claims]


def turned_titles(before, after):
    """The ascending tuple of the titles in both verdicts for which they are not the same."""
    held = {title: holds for title, holds in before}
    return tuple(sorted([title for title, holds in after if title in held and held[title] != holds]))


def check_title(thing):
    """The thing is a title."""
    if not isinstance(thing, str) or not 1 <= len(thing) <= LONGEST_TITLE:
        raise BadTitle(thing)
    if not all(["a" <= letter <= "z" for letter in thing]):
        raise BadTitle(thing)


def is_expression(signs, thing):
    """Whether the thing is the text of an expression that is not too deep."""
    try:
        parse(signs, thing)
    except (BadText, BadExpression, TooMany):
        return False
    return True


def claim_turns(signs, things):
    """The things as turns of a claim."""
    if not is_row(things) or len(things) > MOST_TURNS:
        raise BadTurn(-1)
    for place, thing in enumerate(things):
        if not is_row(thing) or len(thing) != 3 or thing[0] not in HANDS or thing[1] not in SIDES:
            raise BadTurn(place)
        if not is_expression(signs, thing[2]):
            raise BadTurn(place)
    return tuple([tuple(thing) for thing in things])


def lot_of(book, text, known):
    """The value of the text in the book, which is kept among the known ones."""
    if text not in known:
        known[text] = value_of(book, text)
    return known[text]


def verdicts_of(book, claims, kept_verdicts):
    """For each claim its title and whether it holds in the book, if its verdict is not kept."""
    held = {title: holds for title, holds in kept_verdicts}
    known = {}
    for title, turns, goal in claims:
        if title not in held:
            aim = lot_of(book, goal, known)
            made = [(hand, side, lot_of(book, text, known)) for hand, side, text in turns]
            held[title] = Saying(aim, tuple(made)).holds
    return tuple([(title, held[title]) for title, _, _ in claims])
