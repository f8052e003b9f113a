"""Orders, roots, what carries one text into another, and what exchanges with a text, in group books."""

from shrunkalike.arrows import checked_arrows
from shrunkalike.books import over
from shrunkalike.checks import checked_text
from shrunkalike.errors import HasOrder
from shrunkalike.lots import kept_lot
from shrunkalike.lots import meanings_of
from shrunkalike.lots import whole


def unwrapped(arrows, end):
    """Two ends x and y such that the end means x, y and what undoes x, and y is as short as can be.

    No sign of y can follow the one ahead of it, even if its first sign follows its last one; or y
    is one sign or none.
    """
    ahead = []
    low, high = 0, len(end) - 1
    last = end[-1:]
    while low < high and last + end[low] in arrows.rights:
        made = arrows.rights[last + end[low]]
        ahead.append(end[low])
        low += 1
        if made:
            last = made
        else:
            high -= 1
            last = end[high]
    return "".join(ahead), end[low:high] + last


def order_of_inner(arrows, inner):
    """The order of what is left of an end that is unwrapped, or None."""
    if inner and not arrows.is_loop(inner):
        return None
    number = 1
    stands = inner
    while stands:
        stands = over(arrows.book, stands + inner)
        number += 1
    return number


def order(book, text):
    """The least n from 1 on such that n times the text means the empty text, or None."""
    arrows = checked_arrows(book)
    _, inner = unwrapped(arrows, over(book, checked_text(book.signs, text)))
    return order_of_inner(arrows, inner)


def inner_carrier(arrows, inner, other):
    """A text that carries the one into the other, both of which are unwrapped; or None."""
    if len(inner) != len(other):
        return None
    if len(inner) > 1:
        # One has to be the other with some of its first signs put behind the others.
        place = (inner + inner).find(other)
        return inner[:place] if place >= 0 else None
    for text in [""] + list(arrows.book.signs):
        if over(arrows.book, inner + text) == over(arrows.book, text + other):
            return text
    return None


def carried(book, one, other):
    """An end x such that the one and then x mean the same as x and then the other; or None."""
    arrows = checked_arrows(book)
    end = over(book, checked_text(book.signs, one))
    ahead, inner = unwrapped(arrows, end)
    end = over(book, checked_text(book.signs, other))
    other_ahead, other_inner = unwrapped(arrows, end)
    carrier = inner_carrier(arrows, inner, other_inner)
    if carrier is None:
        return None
    return over(book, ahead + carrier + arrows.undone_text(other_ahead))


def inner_root(inner):
    """The shortest text of which the text is a row."""
    return inner[:(inner + inner).find(inner, 1)]


def root(book, text):
    """The end r and the greatest n such that the text means n times r."""
    arrows = checked_arrows(book)
    ahead, inner = unwrapped(arrows, over(book, checked_text(book.signs, text)))
    number = order_of_inner(arrows, inner)
    if number is not None:
        raise HasOrder(number)
    piece = inner_root(inner)
    return (over(book, ahead + piece + arrows.undone_text(ahead)), len(inner) // len(piece))


def wrapped(ahead, ways, behind):
    """The automaton of the text ahead, then one of the ways, then the text behind.

    A way is a text, with whether it is walked once, or any number of times.
    """
    edges = [(place, sign, place + 1) for place, sign in enumerate(ahead)]
    fork, meet = len(ahead), len(ahead) + 1
    many = meet + 1
    for text, is_ring in ways:
        states = [many + place for place in range(len(text) + 1)]
        edges.extend([(states[place], sign, states[place + 1]) for place, sign in enumerate(text)])
        edges.append((fork, "", states[0]))
        if is_ring:
            edges.append((states[-1], "", states[0]))
            edges.append((states[0], "", meet))
        else:
            edges.append((states[-1], "", meet))
        many = many + len(states)
    states = [meet] + [many + place for place in range(len(behind))]
    edges.extend([(states[place], sign, states[place + 1]) for place, sign in enumerate(behind)])
    return (many + len(behind), tuple(edges), (states[-1],))


def inner_exchanging(arrows, inner):
    """The ways, as wrapped takes them, to all that exchanges with what is unwrapped and means something."""
    if not arrows.is_loop(inner):
        piece = inner_root(inner)
        return [(piece, True), (arrows.undone_text(piece), True)]
    texts = [""] + list(arrows.book.signs)
    return [(text, False) for text in texts if over(arrows.book, inner + text) == over(arrows.book, text + inner)]


def exchanging(book, text):
    """The lot of the meanings m such that m and then the text means the same as the text and then m."""
    arrows = checked_arrows(book)
    ahead, inner = unwrapped(arrows, over(book, checked_text(book.signs, text)))
    if not inner:
        return whole(book)
    automaton = wrapped(ahead, inner_exchanging(arrows, inner), arrows.undone_text(ahead))
    return kept_lot(book, meanings_of(book, automaton))
