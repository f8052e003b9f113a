"""The values of expressions: lots of a book."""

from shrunkalike.books import checked_book
from shrunkalike.errors import BadTree
from shrunkalike.expressions import DEEPEST
from shrunkalike.expressions import form_of
from shrunkalike.expressions import parse
from shrunkalike.lots import NO_TEXT
from shrunkalike.lots import Lot
from shrunkalike.lots import single
from shrunkalike.lots import whole
from shrunkalike.quotients import every_ahead
from shrunkalike.quotients import every_behind
from shrunkalike.quotients import some_ahead
from shrunkalike.quotients import some_behind


class Numbering:
    """The different parts of an expression, each one behind its own parts, which it names by their numbers."""

    def __init__(self, signs):
        self._signs = signs
        self._numbers = {}
        self.rows = []

    def number_of(self, thing, depth):
        """The number of the thing, which stands at this depth of the whole."""
        if depth > DEEPEST:
            raise BadTree()
        form = form_of(self._signs, thing)
        if form == "sign":
            row = (form, thing[1])
        else:
            row = (form,) + tuple([self.number_of(part, depth + 1) for part in thing[1:]])
        if row not in self._numbers:
            self._numbers[row] = len(self.rows)
            self.rows.append(row)
        return self._numbers[row]


def plain_value(book, row):
    """The lot of an expression without parts."""
    if row[0] == "sign":
        return single(book, row[1])
    if row[0] == "1":
        return single(book, "")
    return Lot(book, NO_TEXT) if row[0] == "0" else whole(book)


def paired(form, one, other):
    """The lot of an expression of two parts."""
    if form == "|":
        return one | other
    if form == "&":
        return one & other
    if form == "-":
        return one - other
    if form == "row":
        return one * other
    if form == ">":
        return some_behind(one, other)
    if form == ">>":
        return every_behind(one, other)
    return some_ahead(other, one) if form == "<" else every_ahead(other, one)


def value(book, tree):
    """The lot of the expression."""
    checked_book(book)
    numbering = Numbering(book.signs)
    numbering.number_of(tree, 1)
    lots = []
    for row in numbering.rows:
        if len(row) == 3:
            lots.append(paired(row[0], lots[row[1]], lots[row[2]]))
        elif row[0] == "*":
            lots.append(lots[row[1]].again())
        else:
            lots.append(plain_value(book, row))
    return lots[-1]


def value_of(book, text):
    """The lot of the expression that the text reads as."""
    return value(book, parse(checked_book(book).signs, text))
