"""The least automaton with the texts of a deterministic one."""

from shrunkalike.errors import TooMany

MOST_KEPT_STATES = 400


def preceding(width, nexts):
    """The nodes from which each sign leads to each node; a last node stands for no node at all."""
    many = len(nexts) // width
    before = [[] for _ in range((many + 1) * width)]
    for spot, aim in enumerate(nexts):
        sign = spot % width
        node = many if aim < 0 else aim
        before[node * width + sign].append(spot // width)
    for sign in range(width):
        before[many * width + sign].append(many)
    return before


def struck(before, width, sign, nodes, block_of):
    """The nodes from which the sign leads to one of the nodes, by their blocks."""
    found = {}
    for node in nodes:
        for ahead in before[node * width + sign]:
            found.setdefault(block_of[ahead], []).append(ahead)
    return found


def apart(nodes, chosen):
    """The nodes that are not chosen."""
    inside = {node: True for node in chosen}
    return [node for node in nodes if node not in inside]


def blocks_of(width, nexts, accepting):
    """The number of a block for each node; nodes of one block accept the same texts."""
    before = preceding(width, nexts)
    many = len(accepting)
    block_of = [1 if accepting[node] else 0 for node in range(many)] + [0]
    members = [[k for k in range(many + 1) if not block_of[k]], [k for k in range(many) if block_of[k]]]
    queued = [True, True]
    waiting = [0, 1]
    while waiting:
        splitter = waiting.pop()
        queued[splitter] = False
        nodes = members[splitter]
        for sign in range(width):
            for block, chosen in struck(before, width, sign, nodes, block_of).items():
                if len(chosen) == len(members[block]):
                    continue
                made = len(members)
                members[block] = apart(members[block], chosen)
                members.append(chosen)
                queued.append(False)
                for node in chosen:
                    block_of[node] = made
                # The smaller part is enough where the whole has been used before.
                if queued[block] or len(chosen) <= len(members[block]):
                    queued[made] = True
                    waiting.append(made)
                else:
                    queued[block] = True
                    waiting.append(block)
    return block_of


def numbered(signs, nexts, accepting, block_of):
    """The automaton of the blocks, in the order of the least texts that lead to them."""
    width = len(signs)
    lost = block_of[len(accepting)]
    order = {block_of[0]: 0}
    chosen = [0]
    edges = []
    at = 0
    while at < len(chosen):
        for sign in range(width):
            aim = nexts[chosen[at] * width + sign]
            if aim >= 0 and block_of[aim] != lost:
                if block_of[aim] not in order:
                    order[block_of[aim]] = len(chosen)
                    chosen.append(aim)
                edges.append((at, signs[sign], order[block_of[aim]]))
        at += 1
    ends = [state for state, node in enumerate(chosen) if accepting[node]]
    return (len(chosen), tuple(edges), tuple(ends))


def smallest(signs, nexts, accepting):
    """The least automaton, of whatever size; nexts and accepting are as spread tells them."""
    block_of = blocks_of(len(signs), nexts, accepting)
    if block_of[0] == block_of[len(accepting)]:
        return (1, (), ())
    return numbered(signs, nexts, accepting, block_of)


def kept(automaton):
    """The automaton, if it has not too many states to be told."""
    if automaton[0] > MOST_KEPT_STATES:
        raise TooMany("state")
    return automaton
