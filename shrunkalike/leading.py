"""How texts of an automaton are led to signs, and to texts of a goal."""

from heapq import heappush, heappop

from shrunkalike.machines import bits
from shrunkalike.weighing import NOTHING
from shrunkalike.weighing import sum_of
from shrunkalike.words import leaving


class Led:
    """The least value of a text that is led to a text of a goal, the facts used, and that text."""

    def __init__(self, value, facts, goal_text):
        self.value = value
        self.facts = facts
        self.goal_text = goal_text


def placed(weighing, facts):
    """The facts in order, each with the place where its text begins when those ahead are led."""
    found = []
    place = 0
    for key in facts:
        found.append((key, place, -1))
        place = place + len(weighing.names[weighing.parts(key)[0]])
    return found


def run_of(weighing, facts):
    """The run that leads the texts of the facts, one behind the other, to the texts of their kinds."""
    run = []
    waiting = placed(weighing, facts)[::-1]
    while waiting:
        key, place, deed = waiting.pop()
        if deed >= 0:
            run.append((place, deed))
            continue
        number, one, other = weighing.reasons[key]
        _, _, _, count = weighing.worths[key]
        if not count:
            continue
        if number >= 0:
            waiting.append((key, place, number))
        parts = placed(weighing, [part for part in (one, other) if part >= 0])
        waiting.extend([(part, place + shift, -1) for part, shift, _ in parts[::-1]])
    return tuple(run)


def moves_of(weighing, goal_moves, state, goal_state):
    """All triples of a fact, or -1, and the states of both automata behind a move."""
    found = []
    if state == 0:
        # What vanishes elsewhere is a part of the facts of the signs beside it.
        found.extend([(weighing.key_of((0, "", q)), q, goal_state) for q in bits(weighing.forth[0])])
    for sign, following in goal_moves[goal_state]:
        if not sign:
            found.append((-1, state, following))
            continue
        first = weighing.key_of((state, sign, 0))
        for q in bits(weighing.forth[first // weighing.many]):
            found.append((first + q, q, following))
    return found


def path_to(links, node):
    """The facts on the way to the node."""
    back = []
    while links[node] is not None:
        node, key = links[node]
        if key >= 0:
            back.append(key)
    return back[::-1]


def led(weighing, automaton, goal):
    """What is least of all texts of the automaton led to texts of the goal; None if there is none."""
    goal_moves = leaving(goal)
    best = {(0, 0): NOTHING}
    links = {(0, 0): None}
    done = {}
    queue = [(NOTHING, (0, 0))]
    while queue:
        value, node = heappop(queue)
        if node in done:
            continue
        done[node] = True
        if node[0] in automaton[2] and node[1] in goal[2]:
            facts = path_to(links, node)
            names = [weighing.names[weighing.parts(key)[0]] for key in facts]
            return Led(value, facts, "".join(names))
        for key, state, goal_state in moves_of(weighing, goal_moves, node[0], node[1]):
            aim = (state, goal_state)
            made = sum_of(value, weighing.worths[key], 0, 0) if key >= 0 else value
            if aim not in best or made < best[aim]:
                best[aim] = made
                links[aim] = (node, key)
                heappush(queue, (made, aim))
    return None
