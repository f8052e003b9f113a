"""Machines: automata without empty edges, whose sets of states are bit masks.

A machine is a tuple (many, rows, starts, ends): rows[sign * many + state] is the mask of the
states to which the sign leads from the state; the starts and the ends are masks.
"""


def bits(mask):
    """The places of the bits of the mask, ascending."""
    found = []
    while mask:
        low = mask & -mask
        found.append(low.bit_length() - 1)
        mask = mask ^ low
    return found


def mask_of(places):
    """The mask of the places."""
    whole = 0
    for place in places:
        whole = whole | 1 << place
    return whole


def united(rows, shift, places):
    """The union of the rows that stand at the places behind the shift."""
    whole = 0
    for place in places:
        whole = whole | rows[shift + place]
    return whole


def empty_rows(many, edges):
    """For each state the mask of the states to which empty edges lead from it, itself included."""
    rows = [1 << state for state in range(many)]
    for state, sign, following in edges:
        if not sign:
            rows[state] = rows[state] | 1 << following
    for between in range(many):
        for state in range(many):
            if rows[state] >> between & 1:
                rows[state] = rows[state] | rows[between]
    return rows


def machine_of(signs, automaton):
    """The machine that accepts the texts of the automaton."""
    many, edges, ends = automaton
    empties = empty_rows(many, edges)
    rows = [0] * (len(signs) * many)
    for state, sign, following in edges:
        if sign:
            spot = signs.index(sign) * many + state
            rows[spot] = rows[spot] | empties[following]
    return (many, rows, empties[0], mask_of(ends))


def is_taken(signs, machine, text):
    """Whether the machine accepts the text."""
    many, rows, states, ends = machine
    for sign in text:
        states = united(rows, signs.index(sign) * many, bits(states))
    return states & ends != 0


def leading_mask(width, machine):
    """The mask of the states from which some text leads to an end."""
    many, rows, _, ends = machine
    before = [0] * many
    for sign in range(width):
        for state in range(many):
            for following in bits(rows[sign * many + state]):
                before[following] = before[following] | 1 << state
    leading = ends
    fresh = ends
    while fresh:
        fresh = united(before, 0, bits(fresh)) & ~leading
        leading = leading | fresh
    return leading


def trimmed(width, machine):
    """The machine without the states from which no end can be reached."""
    many, rows, starts, ends = machine
    leading = leading_mask(width, machine)
    return (many, [row & leading for row in rows], starts & leading, ends)


def free_table(width):
    """The table that lets every text pass, in the form of piece_table."""
    return [0] * width


def prefixes_of(lefts):
    """All proper beginnings of the left sides."""
    found = {"": True}
    for left in lefts:
        for size in range(len(left)):
            found[left[:size]] = True
    return found


def ends_in(texts, text):
    """The longest end of the text that is one of the texts, or None."""
    for start in range(len(text) + 1):
        if text[start:] in texts:
            return text[start:]
    return None


def piece_table(signs, rules):
    """A table that lets the texts pass of which no piece is a left side.

    What stands at spot * len(signs) + sign is the spot to which the sign leads from the spot, or
    -1 where a left side comes to stand; the first spot is 0.
    """
    lefts = {left: True for left, _ in rules}
    prefixes = prefixes_of(list(lefts))
    texts = [""]
    spots = {"": 0}
    table = []
    at = 0
    while at < len(texts):
        for sign in signs:
            text = texts[at] + sign
            if ends_in(lefts, text) is not None:
                table.append(-1)
                continue
            aim = ends_in(prefixes, text)
            if aim not in spots:
                spots[aim] = len(texts)
                texts.append(aim)
            table.append(spots[aim])
        at += 1
    return table


def spread(width, machine, table):
    """The sets of states that texts which the table lets pass lead to, however many there are."""
    return spread_within(width, machine, table, None)


def spread_within(width, machine, table, most):
    """The sets of states that texts which the table lets pass lead to; (None, None) if more than most.

    Told are a list in which nexts[node * width + sign] is the node to which the sign leads, or -1
    for none, and a list that tells whether each node accepts.
    """
    many, rows, starts, ends = machine
    nodes = [(starts, 0)]
    found = {(starts, 0): 0}
    nexts = []
    at = 0
    while at < len(nodes):
        if most is not None and len(nodes) > most:
            return None, None
        mask, spot = nodes[at]
        states = bits(mask)
        for sign in range(width):
            piece = table[spot * width + sign]
            aim = 0
            if piece >= 0:
                aim = united(rows, sign * many, states)
            if aim and (aim, piece) not in found:
                found[(aim, piece)] = len(nodes)
                nodes.append((aim, piece))
            nexts.append(found[(aim, piece)] if aim else -1)
        at += 1
    return nexts, [mask & ends != 0 for mask, _ in nodes]


def trail(links, node, signs):
    """The text that leads to the node; each link is the node ahead and the sign's number."""
    back = []
    while links[node] is not None:
        ahead, sign = links[node]
        back.append(signs[sign])
        node = ahead
    return "".join(back[::-1])


def least_lacking(signs, one, other, table):
    """The least text that the one accepts and the table lets pass, but not the other; or None."""
    width = len(signs)
    # A state of the one need not be looked at again beside the same states of the other: what
    # follows has been met behind a lesser text.
    seen = {(other[2], 0): one[2]}
    nodes = [(one[2], other[2], 0)]
    links = [None]
    at = 0
    while at < len(nodes):
        mine, yours, spot = nodes[at]
        if mine & one[3] and not yours & other[3]:
            return trail(links, at, signs)
        my_states, your_states = bits(mine), bits(yours)
        for sign in range(width):
            piece = table[spot * width + sign]
            if piece < 0:
                continue
            next_yours = united(other[1], sign * other[0], your_states)
            known = seen.get((next_yours, piece), 0)
            fresh = united(one[1], sign * one[0], my_states) & ~known
            if fresh:
                seen[(next_yours, piece)] = known | fresh
                nodes.append((fresh, next_yours, piece))
                links.append((at, sign))
        at += 1
    return None
