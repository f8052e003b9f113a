"""Books as lines: the signs, and then a line for each rule."""

from shrunkalike.books import Book
from shrunkalike.checks import MOST_RULES
from shrunkalike.checks import checked_signs
from shrunkalike.checks import is_row
from shrunkalike.checks import is_rule
from shrunkalike.errors import BadLine
from shrunkalike.errors import BadSigns

ARROW = ">"


def write_book(book):
    """The tuple of the lines of the book."""
    return tuple([book.signs] + [left + ARROW + right for left, right in book.rules])


def are_lines(things):
    """Whether the things are so many strings as the lines of a book can be."""
    if not is_row(things) or not 1 <= len(things) <= MOST_RULES + 1:
        return False
    return all([isinstance(thing, str) for thing in things])


def read_book(lines):
    """The book of the lines."""
    if not are_lines(lines):
        raise BadLine(-1)
    try:
        signs = checked_signs(lines[0])
    except BadSigns as why:
        raise BadLine(0) from why
    rules = []
    for place, line in enumerate(lines):
        if place:
            left, arrow, right = line.partition(ARROW)
            if not arrow or not is_rule(signs, (left, right)) or (left, right) in rules:
                raise BadLine(place)
            rules.append((left, right))
    return Book(signs, tuple(rules))
