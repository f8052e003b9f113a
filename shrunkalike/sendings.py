"""Books sent into books: each sign of the one has a text of the other one as its image."""

from shrunkalike.books import checked_book
from shrunkalike.books import over
from shrunkalike.checks import LONGEST_TEXT
from shrunkalike.checks import checked_text
from shrunkalike.checks import is_row
from shrunkalike.checks import is_text
from shrunkalike.closures import closed_machine
from shrunkalike.errors import BadImage
from shrunkalike.errors import Unlike
from shrunkalike.lots import kept_lot
from shrunkalike.lots import meanings_of
from shrunkalike.machines import is_taken
from shrunkalike.piles import first_rights
from shrunkalike.piles import left_of_all


class Keeps:
    """Whether a sending keeps the rules."""

    def __init__(self, holds, number):
        self.holds = holds
        self.number = number

    def __bool__(self):
        return bool(self.holds)


class Onto:
    """Whether each meaning of the other book is the image of some text."""

    def __init__(self, holds, sign):
        self.holds = holds
        self.sign = sign

    def __bool__(self):
        return bool(self.holds)


class Sending:
    """A book, the one, sent into a book, the other, by images of its signs."""

    def __init__(self, one, other, images):
        checked_book(one)
        checked_book(other)
        self.one = one
        self.other = other
        self.images = images_of(one.signs, other.signs, images)
        self.image_ends = ends_by_sign(one, other, self.images)

    def __eq__(self, other):
        return (isinstance(other, Sending) and self.one == other.one and self.other == other.other
                and self.images == other.images)

    def __call__(self, text):
        """The image of the text."""
        return image_of(self, checked_text(self.one.signs, text))

    def __mul__(self, other):
        if self.other != other.one:
            raise Unlike("book")
        made = Sending(self.one, other.other, tuple([""] * len(self.images)))
        # These images are ends, and may be longer than those that are passed.
        made.images = tuple([image_of(other, image) for image in self.images])
        made.image_ends = {sign: image for sign, image in zip(self.one.signs, made.images)}
        return made

    def keeps(self):
        """Whether both sides of each rule have the same image."""
        for number, (left, right) in enumerate(self.one.rules):
            if image_of(self, left) != image_of(self, right):
                return Keeps(False, number)
        return Keeps(True, None)

    def onto(self):
        """Whether each sign of the other book means the image of some text."""
        signs, rules = self.other.signs, self.other.rules
        machine = closed_machine(signs, rules, rows_of_ends(list(self.image_ends.values())))
        for sign in signs:
            if not is_taken(signs, machine, over(self.other, sign)):
                return Onto(False, sign)
        return Onto(True, None)

    def sent(self, lot):
        """The lot of the images of all ends in the lot."""
        if lot.book != self.one:
            raise Unlike("book")
        return kept_lot(self.other, meanings_of(self.other, replaced(lot.automaton, self.image_ends)))

    def undone_by(self, other_sending):
        """Whether the other sending leads each sign of either book back to what it means."""
        if other_sending.one != self.other or other_sending.other != self.one:
            raise Unlike("book")
        return leads_back(self, other_sending) and leads_back(other_sending, self)


def images_of(signs, other_signs, things):
    """The things as images of the signs."""
    if not is_row(things) or len(things) != len(signs):
        raise BadImage(-1)
    for place, thing in enumerate(things):
        if not is_text(other_signs, thing, LONGEST_TEXT):
            raise BadImage(place)
    return tuple(things)


def ends_by_sign(one, other, images):
    """For each sign of the one book the end of its image."""
    return {sign: over(other, image) for sign, image in zip(one.signs, images)}


def image_of(sending, text):
    """The image of a text, however long it is."""
    rights = first_rights(sending.other.rules)
    return left_of_all(rights, [(sending.image_ends[sign], True) for sign in text])


def leads_back(sending, back):
    """Whether the image of the image of each sign means this sign."""
    book = sending.one
    return all([image_of(back, image_of(sending, sign)) == over(book, sign) for sign in book.signs])


def rows_of_ends(ends):
    """An automaton of all rows of the ends, whose beginnings share their states."""
    states = {}
    edges = {}
    for end in ends:
        state = 0
        for sign in end[:-1]:
            if (state, sign) not in states:
                states[(state, sign)] = len(states) + 1
            edges[(state, sign, states[(state, sign)])] = True
            state = states[(state, sign)]
        edges[(state, end[-1:], 0)] = True
    return (len(states) + 1, tuple(sorted(list(edges))), (0,))


def replaced(automaton, ends):
    """The automaton with a way that reads the sign's end in the place of each edge.

    Ways that lead to one state share their last signs.
    """
    many, edges, last = automaton
    states = {}
    found = {}
    for state, sign, following in edges:
        aim = following
        for read in ends[sign][:0:-1]:
            if (aim, read) not in states:
                states[(aim, read)] = many + len(states)
            found[(states[(aim, read)], read, aim)] = True
            aim = states[(aim, read)]
        found[(state, ends[sign][:1], aim)] = True
    return (many + len(states), tuple(sorted(list(found))), last)
