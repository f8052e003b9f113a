"""All texts of an automaton, closed: closed edges, and papers that show them."""

from shrunkalike.automata import least_of_machine
from shrunkalike.checks import automaton_of
from shrunkalike.checks import is_between
from shrunkalike.checks import is_row
from shrunkalike.checks import is_text
from shrunkalike.closures import closed_machine
from shrunkalike.closures import closed_masks
from shrunkalike.machines import bits
from shrunkalike.machines import free_table
from shrunkalike.machines import united
from shrunkalike.weighing import Weighing


def closed_edges(book, automaton):
    """The ascending tuple of all closed edges."""
    checked = automaton_of(book.signs, automaton)
    many = checked[0]
    masks = closed_masks(book.signs, book.rules, checked)
    found = []
    for state in range(many):
        for kind, sign in enumerate([""] + list(book.signs)):
            found.extend([(state, sign, following) for following in bits(masks[kind * many + state])])
    return tuple(found)


def descends(book, automaton):
    """The least automaton of all texts to which texts of the automaton shrink."""
    checked = automaton_of(book.signs, automaton)
    machine = closed_machine(book.signs, book.rules, checked)
    return least_of_machine(book.signs, machine, free_table(len(book.signs)))


def sign_facts(weighing, key, width):
    """The facts of single signs of which the fact is made, if it is one of a pair."""
    if weighing.parts(key)[0] <= width:
        return [key]
    _, one, other = weighing.reasons[key]
    return [one, other]


def reason_of(weighing, key, width, numbers):
    """The reason of the fact, as it stands in a paper."""
    number, one, other = weighing.reasons[key]
    kind, state, following = weighing.parts(key)
    if one < 0:
        return ("stay",) if kind == 0 and state == following else ("edge",)
    if number < 0:
        return ("join", numbers[one], numbers[other])
    items = sign_facts(weighing, one, width)
    if other >= 0:
        items = items + sign_facts(weighing, other, width)
    return ("rule", number, tuple([numbers[item] for item in items]))


def closing(book, automaton):
    """A right paper that shows each closed edge once."""
    width = len(book.signs)
    checked = automaton_of(book.signs, automaton)
    deeds = [(left, right, 0) for left, right in book.rules]
    weighing = Weighing(book.signs, deeds, checked, False)
    paper = []
    numbers = {}
    for key in weighing.order:
        kind, state, following = weighing.parts(key)
        if kind <= width:
            reason = reason_of(weighing, key, width, numbers)
            numbers[key] = len(paper)
            paper.append((state, weighing.names[kind], following, reason))
    return tuple(paper)


def shown(paper, at, below):
    """The edge that the entry of this number shows; None if there is none ahead of the entry below."""
    if not is_between(at, 0, below - 1):
        return None
    return tuple(paper[at])[:3]


def is_join(paper, at, reason):
    """Whether the entry's edge is joined from two entries ahead of it."""
    one, other = shown(paper, reason[1], at), shown(paper, reason[2], at)
    if one is None or other is None or one[2] != other[0] or one[1] and other[1]:
        return False
    return (one[0], one[1] + other[1], other[2]) == shown(paper, at, at + 1)


def is_rule_use(book, paper, at, reason):
    """Whether a rule gives the entry's edge from entries ahead of it."""
    _, number, items = reason
    if not is_between(number, 0, len(book.rules) - 1) or not is_row(items):
        return False
    left, right = book.rules[number]
    if len(items) != len(left):
        return False
    state, sign, following = shown(paper, at, at + 1)
    for place, item in enumerate(items):
        edge = shown(paper, item, at)
        if edge is None or edge[0] != state or edge[1] != left[place]:
            return False
        state = edge[2]
    return state == following and sign == right


def has_reason(book, automaton, paper, at):
    """Whether the reason of the entry holds; the rest of its form does."""
    edge, reason = shown(paper, at, at + 1), paper[at][3]
    if not is_row(reason) or not reason or not isinstance(reason[0], str):
        return False
    if reason[0] == "stay":
        return len(reason) == 1 and edge[0] == edge[2] and not edge[1]
    if reason[0] == "edge":
        return len(reason) == 1 and edge in automaton[1]
    if reason[0] == "join":
        return len(reason) == 3 and is_join(paper, at, reason)
    return reason[0] == "rule" and len(reason) == 3 and is_rule_use(book, paper, at, reason)


def is_entry(book, automaton, paper, at):
    """Whether the entry of this number is right."""
    entry = paper[at]
    if not is_row(entry) or len(entry) != 4:
        return False
    last = automaton[0] - 1
    if not is_between(entry[0], 0, last) or not is_between(entry[2], 0, last):
        return False
    return is_text(book.signs, entry[1], 1) and has_reason(book, automaton, paper, at)


def masks_shown(signs, many, edges):
    """The rows of masks of the edges, as closed_masks tells them."""
    found = [0] * ((len(signs) + 1) * many)
    for state, sign, following in edges:
        spot = (signs.index(sign) + 1 if sign else 0) * many + state
        found[spot] = found[spot] | 1 << following
    return found


def given_masks(book, automaton, masks):
    """Pairs of a spot and a mask: what stays, edges, joins and rules give from the masks."""
    signs, many = book.signs, automaton[0]
    kinds = {sign: kind for kind, sign in enumerate([""] + list(signs))}
    found = [(state, 1 << state) for state in range(many)]
    found.extend(list(enumerate(masks_shown(signs, many, automaton[1]))))
    joins = [(sign, "", sign) for sign in kinds] + [("", sign, sign) for sign in kinds]
    pieces = [([one, other], whole) for one, other, whole in joins]
    pieces.extend([(list(left), right) for left, right in book.rules])
    for state in range(many):
        for names, whole in pieces:
            mask = 1 << state
            for name in names:
                mask = united(masks, kinds[name] * many, bits(mask))
            found.append((kinds[whole] * many + state, mask))
    return found


def is_closed(book, automaton, paper):
    """Whether the paper, whose entries are right, shows all that follows from what it shows."""
    edges = [tuple(entry)[:3] for entry in paper]
    masks = masks_shown(book.signs, automaton[0], edges)
    given = given_masks(book, automaton, masks)
    return all([mask & ~masks[spot] == 0 for spot, mask in given])


def judge_closing(book, automaton, paper):
    """The number of the first entry that is not right, or of entries if it is not closed, or -1."""
    checked = automaton_of(book.signs, automaton)
    if not is_row(paper):
        return 0
    for at in range(len(paper)):
        if not is_entry(book, checked, paper, at):
            return at
    return -1 if is_closed(book, checked, paper) else len(paper)
