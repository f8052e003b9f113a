"""Automata put together, and the texts that deterministic automata accept."""


def chain_of(text):
    """The automaton that accepts this text alone; it may be longer than one that is passed."""
    edges = [(place, sign, place + 1) for place, sign in enumerate(text)]
    return (len(text) + 1, tuple(edges), (len(text),))


def row_of(one, other):
    """The automaton of all texts of the one and then of the other."""
    shift = one[0]
    edges = list(one[1]) + [(end, "", shift) for end in one[2]]
    edges.extend([(state + shift, sign, following + shift) for state, sign, following in other[1]])
    return (shift + other[0], tuple(edges), tuple([end + shift for end in other[2]]))


def ring_of(automaton):
    """The automaton of all rows of texts of the automaton."""
    many, edges, ends = automaton
    found = [(0, "", 1)] + [(end + 1, "", 0) for end in ends]
    found.extend([(state + 1, sign, following + 1) for state, sign, following in edges])
    return (many + 1, tuple(found), (0,))


def leaving(automaton):
    """For each state the pairs of a sign and a state of the edges that lead from it."""
    many, edges, _ = automaton
    found = [[] for _ in range(many)]
    for state, sign, following in edges:
        found[state].append((sign, following))
    return found


def next_states(signs, automaton):
    """The state to which a sign leads, or -1, at state * len(signs) + the sign's number."""
    many, edges, _ = automaton
    nexts = [-1] * (many * len(signs))
    for state, sign, following in edges:
        nexts[state * len(signs) + signs.index(sign)] = following
    return nexts


def first_place(edges, state, sign):
    """The number of edges that are less than each edge of the state and the sign."""
    low, high = 0, len(edges)
    while low < high:
        middle = (low + high) // 2
        if edges[middle] < (state, sign, -1):
            low = middle + 1
        else:
            high = middle
    return low


def is_read(automaton, text):
    """Whether the deterministic automaton accepts the text."""
    _, edges, ends = automaton
    state = 0
    for sign in text:
        place = first_place(edges, state, sign)
        if place == len(edges) or edges[place][:2] != (state, sign):
            return False
        state = edges[place][2]
    return state in ends


def is_wanted(how, mine, yours):
    """Whether what is in the one, and in the other, is in both put together."""
    if how == "or":
        return mine or yours
    if how == "and":
        return mine and yours
    return mine and not yours


def goes_on(how, mine, yours):
    """Whether something can be wanted behind a text that lives on in the one, and in the other."""
    return mine if how == "less" else is_wanted(how, mine, yours)


def pairs_of(signs, one, other, how):
    """Two deterministic automata put together; nexts and accepting are as spread tells them.

    The word how is one of or, and, less. A state -1 stands for none.
    """
    width = len(signs)
    mine, yours = next_states(signs, one), next_states(signs, other)
    my_ends, your_ends = {end: True for end in one[2]}, {end: True for end in other[2]}
    nodes = [(0, 0)]
    found = {(0, 0): 0}
    nexts = []
    at = 0
    while at < len(nodes):
        state, other_state = nodes[at]
        for sign in range(width):
            aim = mine[state * width + sign] if state >= 0 else -1
            other_aim = yours[other_state * width + sign] if other_state >= 0 else -1
            if not goes_on(how, aim >= 0, other_aim >= 0):
                nexts.append(-1)
                continue
            if (aim, other_aim) not in found:
                found[(aim, other_aim)] = len(nodes)
                nodes.append((aim, other_aim))
            nexts.append(found[(aim, other_aim)])
        at += 1
    accepting = [is_wanted(how, state in my_ends, other_state in your_ends) for state, other_state in nodes]
    return nexts, accepting


def longer(moves, level, most):
    """The level's texts, made longer by one sign: at most so many for each state."""
    counts = {}
    found = []
    for text, state in level:
        for sign, following in moves[state]:
            counts[following] = counts.get(following, 0) + 1
            if counts[following] <= most:
                found.append((text + sign, following))
    return found


def least_words(signs, automaton, many):
    """The least texts that the deterministic automaton accepts, so many or all of them."""
    moves = leaving(automaton)
    ends = {end: True for end in automaton[2]}
    found = []
    level = [("", 0)]
    while level and len(found) < many:
        found.extend([text for text, state in level if state in ends])
        # What comes behind more texts that lead to one state than are still wanted is not told.
        level = longer(moves, level, many - len(found))
    return found[:many]


def count_of_size(automaton, size):
    """The number of texts with so many signs that the deterministic automaton accepts."""
    counts = [1] + [0] * (automaton[0] - 1)
    for _ in range(size):
        after = [0] * automaton[0]
        for state, _, following in automaton[1]:
            after[following] = after[following] + counts[state]
        counts = after
    return sum([counts[end] for end in automaton[2]])
