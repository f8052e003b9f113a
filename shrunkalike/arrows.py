"""The signs of a group book as arrows, each of which leads from one place to another."""

from shrunkalike.books import checked_book
from shrunkalike.errors import NoUndo
from shrunkalike.errors import NotShort
from shrunkalike.settling import least_rules


class Arrows:
    """The signs of a group book: what two of them come to, what undoes them, and where they begin and lead."""

    def __init__(self, book, rights, undoing):
        self.book = book
        self.rights = rights
        self.undoing = undoing
        self.begins = first_places(book.signs, rights, undoing)
        self.leads = {sign: self.begins[undoing[sign]] for sign in book.signs}
        self.roots = least_places(book.signs, self.begins, self.leads)

    def undone_text(self, text):
        """The text that undoes the text; it is an end if the text is one."""
        return "".join([self.undoing[sign] for sign in text[::-1]])

    def is_loop(self, text):
        """Whether the text is one sign that leads to where it begins."""
        return len(text) == 1 and self.begins[text] == self.leads[text]

    def loops(self, place):
        """The ascending string of the loops of the place."""
        return "".join([sign for sign in self.book.signs if self.is_loop(sign) and self.begins[sign] == place])

    def first_between(self, place, other):
        """The first sign that leads from the one place to the other one."""
        return [sign for sign in self.book.signs if self.begins[sign] == place and self.leads[sign] == other][0]


def undoing_signs(signs, rights):
    """For each sign of a short book the sign that undoes it."""
    found = {}
    for sign in signs:
        for other in signs:
            if rights.get(sign + other) == "" and rights.get(other + sign) == "":
                found[sign] = other
        if sign not in found:
            raise NoUndo(sign)
    return found


def first_places(signs, rights, undoing):
    """For each sign the number of the place at which it begins."""
    found = {}
    heads = []
    for sign in signs:
        for place, head in enumerate(heads):
            if undoing[head] + sign in rights:
                found[sign] = place
        if sign not in found:
            found[sign] = len(heads)
            heads.append(sign)
    return found


def least_places(signs, begins, leads):
    """For each place the least one with which it hangs together; some sign leads there straight."""
    roots = list(range(max(begins.values()) + 1))
    for sign in signs:
        roots[begins[sign]] = min(roots[begins[sign]], leads[sign])
    return roots


def checked_arrows(book):
    """The signs of the book as arrows, if it is a group book."""
    rights = {}
    for left, right in least_rules(checked_book(book)):
        if len(left) != 2:
            raise NotShort(left)
        rights[left] = right
    return Arrows(book, rights, undoing_signs(book.signs, rights))
