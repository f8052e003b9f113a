"""What is passed: whether it has the forms that the document names."""

from shrunkalike.errors import BadAutomaton
from shrunkalike.errors import BadMend
from shrunkalike.errors import BadNumber
from shrunkalike.errors import BadPrice
from shrunkalike.errors import BadRule
from shrunkalike.errors import BadSigns
from shrunkalike.errors import BadText

MOST_SIGNS = 8
LONGEST_TEXT = 200
MOST_STATES = 40
MOST_EDGES = 400
MOST_RULES = 64
MOST_MENDS = 64
LONGEST_LEFT = 4
LONGEST_RIGHT = 1
HIGHEST_PRICE = 1000


def is_whole(thing):
    """Whether the thing is an integer; True and False are none."""
    return isinstance(thing, int) and not isinstance(thing, bool)


def is_row(thing):
    """Whether the thing is a tuple, or a list in the place of one."""
    return isinstance(thing, (list, tuple))


def is_between(thing, low, high):
    """Whether the thing is an integer within the bounds."""
    return is_whole(thing) and low <= thing <= high


def ascending_texts(texts):
    """The texts, ascending, as a tuple; each of them is passed once."""
    return tuple([text for _, text in sorted([(len(text), text) for text in texts])])


def is_text(signs, thing, most):
    """Whether the thing is a text over the signs of at most so many signs."""
    if not isinstance(thing, str) or len(thing) > most:
        return False
    return all([sign in signs for sign in thing])


def checked_signs(thing):
    """The thing, if it is a string of signs."""
    if not isinstance(thing, str) or not 1 <= len(thing) <= MOST_SIGNS:
        raise BadSigns(thing)
    before = ""
    for sign in thing:
        if not "a" <= sign <= "z" or sign <= before:
            raise BadSigns(thing)
        before = sign
    return thing


def checked_text(signs, thing):
    """The thing, if it is a text over the signs that may be passed."""
    if not is_text(signs, thing, LONGEST_TEXT):
        raise BadText(thing)
    return thing


def checked_number(thing, low, high):
    """The thing, if it is an integer within the bounds."""
    if not is_between(thing, low, high):
        raise BadNumber(thing)
    return thing


def is_edge(signs, many, thing):
    """Whether the thing is a triple of a state, a sign or nothing, and a state."""
    if not is_row(thing) or len(thing) != 3:
        return False
    state, sign, following = thing
    if not is_between(state, 0, many - 1) or not is_between(following, 0, many - 1):
        return False
    return is_text(signs, sign, 1)


def automaton_of(signs, thing):
    """The thing as tuples, if it is an automaton over the signs."""
    if not is_row(thing) or len(thing) != 3:
        raise BadAutomaton(-1)
    many, edges, ends = thing
    if not is_between(many, 1, MOST_STATES) or not is_row(edges) or not is_row(ends):
        raise BadAutomaton(-1)
    if len(edges) > MOST_EDGES:
        raise BadAutomaton(-1)
    return (many, edges_of(signs, many, edges), ends_of(many, ends, len(edges)))


def edges_of(signs, many, things):
    """The things as edges, ascending."""
    found = []
    for place, thing in enumerate(things):
        if not is_edge(signs, many, thing):
            raise BadAutomaton(place)
        edge = tuple(thing)
        if found and edge <= found[-1]:
            raise BadAutomaton(place)
        found.append(edge)
    return tuple(found)


def ends_of(many, things, shift):
    """The things as states, ascending; their places are counted from the shift on."""
    before = -1
    for place, state in enumerate(things):
        if not is_between(state, before + 1, many - 1):
            raise BadAutomaton(shift + place)
        before = state
    return tuple(things)


def is_rule(signs, thing):
    """Whether the thing is a pair of a left side and a shorter right side."""
    if not is_row(thing) or len(thing) != 2:
        return False
    left, right = thing
    if not is_text(signs, left, LONGEST_LEFT) or not is_text(signs, right, LONGEST_RIGHT):
        return False
    return len(right) < len(left)


def rules_of(signs, things):
    """The things as different rules over the signs."""
    if not is_row(things) or len(things) > MOST_RULES:
        raise BadRule(-1)
    seen = {}
    for place, thing in enumerate(things):
        if not is_rule(signs, thing) or tuple(thing) in seen:
            raise BadRule(place)
        seen[tuple(thing)] = True
    return tuple(list(seen))


def prices_of(many, things):
    """The things as prices of so many rules."""
    if not is_row(things) or len(things) != many:
        raise BadPrice(-1)
    for place, thing in enumerate(things):
        if not is_between(thing, 0, HIGHEST_PRICE):
            raise BadPrice(place)
    return tuple(things)


def is_mend(signs, thing):
    """Whether the thing is a triple of two different texts and a price."""
    if not is_row(thing) or len(thing) != 3:
        return False
    left, right, price = thing
    if not is_text(signs, left, LONGEST_LEFT) or not is_text(signs, right, LONGEST_RIGHT):
        return False
    return left != right and is_between(price, 0, HIGHEST_PRICE)


def mends_of(signs, things):
    """The things as mends over the signs."""
    if not is_row(things) or len(things) > MOST_MENDS:
        raise BadMend(-1)
    for place, thing in enumerate(things):
        if not is_mend(signs, thing):
            raise BadMend(place)
    return tuple([tuple(thing) for thing in things])
