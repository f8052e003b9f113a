"""Slow and plain ways to find what the program finds, and things to try it on."""

import heapq
import itertools
import random


def order(text):
    return (len(text), text)


def texts(signs, longest):
    """All texts of at most so many signs, ascending."""
    return ["".join(row) for size in range(longest + 1) for row in itertools.product(signs, repeat=size)]


def reached(automaton, states, sign):
    """The states to which the sign, or nothing, leads from the states; empty edges are not followed."""
    return {q for p, x, q in automaton[1] if p in states and x == sign}


def spread(automaton, states):
    """The states with all to which empty edges lead."""
    states = set(states)
    while True:
        more = reached(automaton, states, "") - states
        if not more:
            return states
        states |= more


def walk(automaton, starts, text):
    """The states to which ways from the starts lead that read the text."""
    states = spread(automaton, starts)
    for sign in text:
        states = spread(automaton, reached(automaton, states, sign))
    return states


def accepts(automaton, text):
    return bool(walk(automaton, {0}, text) & set(automaton[2]))


def language(signs, automaton, longest):
    return [text for text in texts(signs, longest) if accepts(automaton, text)]


def steps(rules, text):
    return [(place, k) for place in range(len(text) + 1) for k, rule in enumerate(rules)
            if text[place:place + len(rule[0])] == rule[0]]


def after(rules, text, step):
    place, k = step
    return text[:place] + rules[k][1] + text[place + len(rules[k][0]):]


def shrinks(rules, text):
    found, waiting = {text}, [text]
    while waiting:
        here = waiting.pop()
        for step in steps(rules, here):
            aim = after(rules, here, step)
            if aim not in found:
                found.add(aim)
                waiting.append(aim)
    return sorted(found, key=order)


def ends(rules, text):
    return [found for found in shrinks(rules, text) if not steps(rules, found)]


def least_quarrel(signs, rules, longest):
    """The least text with two ends among those of at most so many signs, and its ends."""
    for text in texts(signs, longest):
        found = ends(rules, text)
        if len(found) > 1:
            return text, found
    return None


def ways(automaton, longest, signs):
    """All triples of a state, a text of at most so many signs that is read, and a state."""
    return [(p, text, q) for p in range(automaton[0]) for text in texts(signs, longest)
            for q in sorted(walk(automaton, {p}, text))]


def bettered(best, key, value):
    if key not in best or value < best[key]:
        best[key] = value
        return True
    return False


def weights(signs, deeds, automaton, first, both, deed_value):
    """The least values of all closed edges, by trying everything again until nothing changes."""
    many = automaton[0]
    best = {(p, "", p): first("") for p in range(many)}
    for p, x, q in automaton[1]:
        bettered(best, (p, x, q), first(x))
    changed = True
    while changed:
        changed = False
        for (p, x, r), mine in sorted(best.items()):
            for (s, y, q), yours in sorted(best.items()):
                if r == s and (not x or not y):
                    changed |= bettered(best, (p, x + y, q), both(mine, yours))
        for k, deed in enumerate(deeds):
            rows = {(p, p): deed_value(k) for p in range(many)}
            for sign in deed[0]:
                longer = {}
                for (p, r), value in rows.items():
                    for q in range(many):
                        if (r, sign, q) in best:
                            bettered(longer, (p, q), both(value, best[(r, sign, q)]))
                rows = longer
            for (p, q), value in rows.items():
                changed |= bettered(best, (p, deed[1], q), value)
    return best


def closed(signs, rules, automaton):
    """All closed edges."""
    return sorted(weights(signs, rules, automaton, lambda x: 0, lambda x, y: 0, lambda k: 0))


def origins(signs, rules, automaton):
    """The least text of each closed edge."""
    found = weights(signs, rules, automaton, order, lambda x, y: order(x[1] + y[1]), lambda k: order(""))
    return {edge: value[1] for edge, value in found.items()}


def prices(signs, rules, rule_prices, mends, automaton):
    """The price table, as a dict."""
    deeds = [(left, right, price) for (left, right), price in zip(rules, rule_prices)] + list(mends)
    return weights(signs, deeds, automaton, lambda x: 0, lambda x, y: x + y, lambda k: deeds[k][2])


def led_prices(deeds, longest, signs, goal):
    """The least (price, steps) with which each text comes to a text of the goal, all texts on the way being short."""
    known = texts(signs, longest)
    best = {text: (0, 0) for text in known if accepts(goal, text)}
    back = {text: [] for text in known}
    for text in known:
        for step in steps(deeds, text):
            aim = after(deeds, text, step)
            if len(aim) <= longest:
                back[aim].append((text, deeds[step[1]][2]))
    queue = [(value, text) for text, value in best.items()]
    heapq.heapify(queue)
    while queue:
        value, text = heapq.heappop(queue)
        if best[text] < value:
            continue
        for ahead, price in back[text]:
            made = (value[0] + price, value[1] + 1)
            if bettered(best, ahead, made):
                heapq.heappush(queue, (made, ahead))
    return best


def some_automaton(chance, signs, most_states, most_edges, empty=True):
    """An automaton, as it comes."""
    many = chance.randint(1, most_states)
    known = list(signs) + ([""] if empty else [])
    edges = {(chance.randrange(many), chance.choice(known), chance.randrange(many))
             for _ in range(chance.randint(0, most_edges))}
    ends_ = {chance.randrange(many) for _ in range(chance.randint(0, 3))}
    return (many, tuple(sorted(edges)), tuple(sorted(ends_)))


def some_rules(chance, signs, most, longest=4):
    """Different rules, as they come."""
    found = []
    for _ in range(chance.randint(0, most)):
        left = "".join(chance.choice(signs) for _ in range(chance.randint(1, longest)))
        right = "" if len(left) == 1 else chance.choice([""] + list(signs))
        if (left, right) not in found:
            found.append((left, right))
    return tuple(found)


def some_mends(chance, signs, most, highest=4, longest=4):
    """Mends, as they come."""
    found = []
    for _ in range(chance.randint(0, most)):
        left = "".join(chance.choice(signs) for _ in range(chance.randint(0, longest)))
        right = chance.choice([""] + list(signs))
        if left != right:
            found.append((left, right, chance.randint(0, highest)))
    return tuple(found)


def made(seed):
    return random.Random(seed)


SETTLED = (
    ("ab", ()),
    ("a", (("aa", ""),)),
    ("a", (("aaa", "a"),)),
    ("ab", (("ab", ""),)),
    ("ab", (("ab", ""), ("ba", ""))),
    ("ab", (("aa", "a"), ("bb", "b"))),
    ("abc", (("aa", ""), ("bb", ""), ("cc", ""), ("ab", "c"), ("ba", "c"), ("ac", "b"), ("ca", "b"), ("bc", "a"),
             ("cb", "a"))),
    ("abc", (("ab", "c"),)),
    ("abc", (("acb", "c"), ("ab", "c"))),
    ("abcd", (("ab", ""), ("cd", ""))),
    ("abcd", (("ab", ""), ("ba", ""), ("cd", ""), ("dc", ""))),
    ("ab", (("a", ""),)),
    ("abc", (("aa", "a"), ("ab", "b"), ("ba", "b"), ("bb", "b"), ("cc", ""))),
    ("ab", (("aabb", ""),)),
    ("ab", (("aba", "a"),)),
    ("abc", (("abcb", "a"), ("cc", ""))),
)
