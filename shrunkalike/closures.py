"""The closed edges of an automaton, as rows of bit masks.

A kind is a relation between states. Kind 0 has the pairs of states between which some text shrinks
to the empty text; then come, for each sign, what shrinks to the sign by an edge or by a last step;
then, for each sign, the same with what vanishes behind it; then, for each pair of signs that is
half of a long left side, the pair, and the pair with what vanishes behind it. What stands at
kind * many + state of the rows is the mask of the states to which the kind leads from the state.
"""

from shrunkalike.machines import bits
from shrunkalike.machines import mask_of
from shrunkalike.machines import united


def long_halves(rules):
    """The different pairs of signs that are a half of a left side of three or four signs."""
    found = {}
    for left, _ in rules:
        if len(left) > 2:
            found[left[:2]] = True
        if len(left) > 3:
            found[left[2:]] = True
    return list(found)


def kinds_of(signs, rules):
    """The numbers of the kinds, by their names: a dot stands for what vanishes behind."""
    names = [""] + list(signs) + [sign + "." for sign in signs]
    for pair in long_halves(rules):
        names.extend([pair, pair + "."])
    return {name: kind for kind, name in enumerate(names)}


def joins_of(signs, rules, kinds):
    """All triples of kinds such that the first one, then the second one, are the third one."""
    found = {(0, 0, 0): True}
    for name in list(signs) + long_halves(rules):
        found[(kinds[name], 0, kinds[name + "."])] = True
    for pair in long_halves(rules):
        found[(kinds[pair[0] + "."], kinds[pair[1]], kinds[pair])] = True
    for left, right in rules:
        if len(left) > 1:
            half = left[0] if len(left) == 2 else left[:2]
            found[(kinds[half + "."], kinds[left[len(half):]], kinds[right])] = True
    return list(found)


def grammar_of(signs, rules):
    """For each kind: what it joins with as the first, and as the second; and whether it vanishes."""
    kinds = kinds_of(signs, rules)
    firsts = [() for _ in kinds]
    seconds = [() for _ in kinds]
    for first, second, whole in joins_of(signs, rules, kinds):
        firsts[first] = firsts[first] + ((second, whole),)
        seconds[second] = seconds[second] + ((first, whole),)
    lefts = {left: True for left, _ in rules}
    return firsts, seconds, [len(name) == 1 and name in lefts for name in kinds]


def seeds(signs, automaton):
    """The pairs of a row's number and a mask with which the closing begins."""
    many, edges, _ = automaton
    found = [(state, 1 << state) for state in range(many)]
    for state, sign, following in edges:
        kind = signs.index(sign) + 1 if sign else 0
        found.append((kind * many + state, 1 << following))
    return found


def outcome(grammar, many, rows, back, begun, spot, fresh):
    """What comes of the fresh bits of the row at the spot: pairs of a row's number and a mask."""
    firsts, seconds, vanishing = grammar
    kind, state = spot // many, spot % many
    found = []
    for first, whole in seconds[kind]:
        found.extend([(whole * many + ahead, fresh) for ahead in bits(back[first * many + state])])
    for second, whole in firsts[kind]:
        mask = united(rows, second * many, bits(fresh & begun[second]))
        if mask:
            found.append((whole * many + state, mask))
    if vanishing[kind]:
        found.append((state, fresh))
    return found


def closed_rows(signs, rules, automaton):
    """The rows of all kinds."""
    many = automaton[0]
    grammar = grammar_of(signs, rules)
    rows = [0] * (len(grammar[0]) * many)
    back = [0] * len(rows)
    begun = [0] * len(grammar[0])
    fresh = [0] * len(rows)
    waiting = []
    todo = seeds(signs, automaton)
    while todo or waiting:
        for spot, mask in todo:
            added = mask & ~rows[spot]
            if added:
                if not fresh[spot]:
                    waiting.append(spot)
                rows[spot] = rows[spot] | added
                fresh[spot] = fresh[spot] | added
                kind, start = spot // many, 1 << spot % many
                begun[kind] = begun[kind] | start
                for following in bits(added):
                    back[kind * many + following] = back[kind * many + following] | start
        todo = []
        if waiting:
            spot = waiting.pop()
            todo = outcome(grammar, many, rows, back, begun, spot, fresh[spot])
            fresh[spot] = 0
    return rows


def closed_machine(signs, rules, automaton):
    """The machine that accepts all texts to which texts of the automaton shrink."""
    many, _, ends = automaton
    width = len(signs)
    rows = closed_rows(signs, rules, automaton)
    moves = rows[(width + 1) * many:(2 * width + 1) * many]
    return (many, moves, rows[0], mask_of(ends))


def closed_masks(signs, rules, automaton):
    """For each sign, the empty one first, and each state the mask of the closed edges' states."""
    many = automaton[0]
    width = len(signs)
    rows = closed_rows(signs, rules, automaton)
    found = rows[:many]
    for kind in range(width + 1, 2 * width + 1):
        for state in range(many):
            found.append(united(rows, kind * many, bits(rows[state])))
    return found
