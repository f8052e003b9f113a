"""Books of rules."""

from shrunkalike.checks import checked_signs
from shrunkalike.checks import checked_text
from shrunkalike.checks import rules_of
from shrunkalike.errors import NotSettled
from shrunkalike.piles import first_rights
from shrunkalike.piles import left_over
from shrunkalike.piles import quarrel_of


class Book:
    """Signs, and the rules over them, numbered from 0 in their order."""

    def __init__(self, signs, rules):
        self.signs = checked_signs(signs)
        self.rules = rules_of(signs, rules)
        self._rights = first_rights(self.rules)
        # A property may not keep what it finds, so it is looked for here.
        self._quarrel = quarrel_of(self.rules)

    @property
    def quarrel(self):
        """None if the book is settled, otherwise the least text with two ends."""
        return self._quarrel

    def __len__(self):
        return len(self.rules)

    def __iter__(self):
        return iter(self.rules)

    def __getitem__(self, at):
        return self.rules[at]

    def __eq__(self, other):
        return isinstance(other, Book) and self.signs == other.signs and self.rules == other.rules

    def __call__(self, text):
        """What is left over of the text."""
        return left_over(self._rights, checked_text(self.signs, text))


def checked_book(book):
    """The book, if it is settled."""
    if book.quarrel is not None:
        raise NotSettled(book.quarrel)
    return book


def over(book, text):
    """What is left over of a text, however long it is."""
    return left_over(first_rights(book.rules), text)
