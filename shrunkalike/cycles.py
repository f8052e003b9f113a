"""Deterministic automata all of whose states lead to ends: whether they have endlessly many texts."""

from shrunkalike.words import leaving


def order_of(automaton):
    """The states in an order in which all edges lead on; those behind a way that comes back are left out."""
    many, edges, _ = automaton
    missing = [0] * many
    for _, _, following in edges:
        missing[following] += 1
    moves = leaving(automaton)
    order = [state for state in range(many) if not missing[state]]
    at = 0
    while at < len(order):
        for _, following in moves[order[at]]:
            missing[following] -= 1
            if not missing[following]:
                order.append(following)
        at += 1
    return order


def is_endless(automaton):
    """Whether the automaton accepts endlessly many texts."""
    return len(order_of(automaton)) < automaton[0]


def count_and_longest(automaton, order):
    """The number of texts, and the length of the longest one, or None if there are none."""
    _, _, ends = automaton
    counts = [0] * automaton[0]
    sizes = [0] * automaton[0]
    counts[0] = 1
    moves = leaving(automaton)
    for state in order:
        for _, following in moves[state]:
            counts[following] = counts[following] + counts[state]
            sizes[following] = max(sizes[following], sizes[state] + 1)
    longest = max([sizes[end] for end in ends]) if ends else None
    return sum([counts[end] for end in ends]), longest


def least_way(moves, level, goals):
    """The least text on a way to a goal that goes on from a pair of a text and a state; or None."""
    seen = {}
    while level:
        after = []
        for text, state in level:
            if state in goals:
                return text
            if state not in seen:
                seen[state] = True
                after.extend([(text + sign, following) for sign, following in moves[state]])
        level = after
    return None


def ring_in(automaton, order):
    """Texts x, y and z, of which x, then y any number of times, then z are accepted."""
    moves = leaving(automaton)
    passed = {state: True for state in order}
    for state in range(automaton[0]):
        if state in passed:
            continue
        around = least_way(moves, moves[state], (state,))
        if around is not None:
            ahead = least_way(moves, [("", 0)], (state,))
            return (ahead, around, least_way(moves, [("", state)], automaton[2]))
    return None
