"""Where two ends meet: the ends that lead to a goal when they are put behind, or ahead of, others.

When an end is put behind another one, rules can be used only where the two meet: on the last signs
of the one that are left, then the middle, which is what the use of a rule has put there (a sign or
nothing), then the first signs of the other one that are left. So what comes out is a beginning of
the one, then the middle, then what is left of the other one.

The ends of one side, the partner, are the texts of a deterministic automaton; those of the other
side are read sign by sign. A kind is a middle, or a middle and some signs that must be read before
it stands there. The parts are a dict that has a mask of states of the partner for each kind.
"""

from shrunkalike.least import smallest
from shrunkalike.machines import bits
from shrunkalike.machines import mask_of
from shrunkalike.machines import piece_table
from shrunkalike.machines import united

# In the place of states of the goal: whatever can follow leads to the goal.
ALL = -1


def uses_of(rules):
    """All ways to use a rule where two ends meet.

    Each is a tuple of the signs of the one end, the middle, the signs of the other end, and the
    right side.
    """
    found = {}
    for left, right in rules:
        for place in range(len(left)):
            found[(left[:place], left[place], left[place + 1:], right)] = True
            # An end has no left side in it, so signs of both stand where there is no middle.
            if place:
                found[(left[:place], "", left[place:], right)] = True
    return list(found)


def rows_of(signs, automaton):
    """The masks of the states behind, and of those ahead, at sign * many + state."""
    many, edges, _ = automaton
    rows = [0] * (len(signs) * many)
    back = [0] * (len(signs) * many)
    for state, sign, following in edges:
        shift = signs.index(sign) * many
        rows[shift + state] = rows[shift + state] | 1 << following
        back[shift + following] = back[shift + following] | 1 << state
    return rows, back


class Meeting:
    """The ends that are read, meeting those of a partner on the way to a goal.

    A use is a tuple (middle, taken, read, made): from the middle to the one that is made the
    partner's states go back over the signs taken, while the signs read are read.
    """

    def __init__(self, signs, rules, partner, goal, uses):
        self.signs = signs
        self.table = piece_table(signs, rules)
        self.many = partner[0]
        self.forth, self._back = rows_of(signs, partner)
        self.partner_ends = mask_of(partner[2])
        self.goal_many = goal[0]
        self.goal_forth, self.goal_back = rows_of(signs, goal)
        self.goal_ends = mask_of(goal[2])
        self._uses = uses
        self._kinds = {(middle, ""): kind for kind, middle in enumerate([""] + list(signs))}
        self._bases = list(range(len(self._kinds)))
        self._silent = [[] for _ in self._kinds]
        self._heard = {}
        self._useful = []
        self._known = {}
        for middle, taken, read, made in uses:
            self._set_use(self._kinds[(middle, "")], taken, read, made)

    def _set_use(self, kind, taken, read, made):
        """What the use does to the parts of this kind."""
        if not read:
            self._silent[kind].append((taken, self._kinds[(made, "")]))
            return
        for size in range(1, len(read)):
            rest = read[len(read) - size:]
            if (made, rest) not in self._kinds:
                behind = self._kinds[(made, rest[1:])]
                self._kinds[(made, rest)] = len(self._bases)
                self._heard[(len(self._bases), rest[0])] = [("", behind)]
                self._bases.append(self._kinds[(made, "")])
        self._heard.setdefault((kind, read[0]), []).append((taken, self._kinds[(made, read[1:])]))

    def led_by(self, mask, text):
        """The states to which the text leads from the states of the partner."""
        for sign in text:
            mask = united(self.forth, self.signs.index(sign) * self.many, bits(mask))
        return mask

    def _sources(self, mask, text):
        """The states of the partner from which the text leads to the states."""
        if not text:
            return mask
        if (mask, text) not in self._known:
            found = mask
            for sign in text[::-1]:
                found = united(self._back, self.signs.index(sign) * self.many, bits(found))
            self._known[(mask, text)] = found
        return self._known[(mask, text)]

    def set_useful(self, last):
        """For each middle the states from which the uses lead to those of the last masks."""
        self._useful = [0] * len(last)
        fresh = list(last)
        waiting = [kind for kind in range(len(last)) if last[kind]]
        while waiting:
            kind = waiting.pop()
            added = fresh[kind] & ~self._useful[kind]
            self._useful[kind] = self._useful[kind] | added
            if not added:
                continue
            for middle, taken, _, made in self._uses:
                if self._kinds[(made, "")] == kind:
                    ahead = self._kinds[(middle, "")]
                    fresh[ahead] = fresh[ahead] | self.led_by(added, taken)
                    waiting.append(ahead)

    def put(self, parts, kind, mask):
        """The useful ones of the states are put to the parts of the kind; whether this is new."""
        added = mask & self._useful[self._bases[kind]] & ~parts.get(kind, 0)
        if added:
            parts[kind] = parts.get(kind, 0) | added
        return added != 0

    def settle(self, parts):
        """All uses that read nothing are put to the parts; as a tuple of pairs, ascending."""
        waiting = [kind for kind in parts if kind < len(self._silent)]
        while waiting:
            kind = waiting.pop()
            for taken, made in self._silent[kind]:
                if self.put(parts, made, self._sources(parts[kind], taken)):
                    waiting.append(made)
        return tuple(sorted(list(parts.items())))

    def moved(self, pairs, sign):
        """The parts behind the sign."""
        found = {}
        for kind, mask in pairs:
            for taken, made in self._heard.get((kind, sign), ()):
                self.put(found, made, self._sources(mask, taken))
        return found

    def goal_behind(self, mask, sign):
        """The states of the goal to which the sign, or nothing, leads from the states."""
        if not sign:
            return mask
        return united(self.goal_forth, self.signs.index(sign) * self.goal_many, bits(mask))


class Behind(Meeting):
    """The ends that lead to the goal when they are put behind some end of the partner.

    The states of the goal are those to which the one end's beginning, the middle, and what is left
    of the other end lead.
    """

    def __init__(self, signs, rules, partner, goal):
        uses = [(middle, ahead, behind, right) for ahead, middle, behind, right in uses_of(rules)]
        Meeting.__init__(self, signs, rules, partner, goal, uses)
        self._reached = self._beginnings()
        self._jumps = {}
        self._full = {}
        last = []
        for kind in range(len(signs) + 1):
            last.append(mask_of([state for state in range(self.many) if self._jump(kind, 1 << state)]))
        self.set_useful(last)

    def _beginnings(self):
        """For each state of the partner the states of the goal to which a text leads that leads to it."""
        found = [0] * self.many
        fresh = [0] * self.many
        fresh[0] = 1
        waiting = [0]
        while waiting:
            state = waiting.pop()
            added = fresh[state] & ~found[state]
            found[state] = found[state] | added
            if not added:
                continue
            for number, sign in enumerate(self.signs):
                aim = self.goal_behind(added, sign)
                for following in bits(self.forth[number * self.many + state]):
                    if aim & ~found[following]:
                        fresh[following] = fresh[following] | aim
                        waiting.append(following)
        return found

    def _jump(self, kind, mask):
        """The states of the goal to which beginnings that lead to the states, then the middle, lead."""
        if (kind, mask) not in self._jumps:
            reached = united(self._reached, 0, bits(mask))
            self._jumps[(kind, mask)] = self.goal_behind(reached, self.signs[kind - 1] if kind else "")
        return self._jumps[(kind, mask)]

    def _goes_wrong(self, pairs):
        """Whether some text that the table lets pass leads from the first pair to no end of the goal.

        All pairs of a state of the goal and a spot of the table to which it comes are put to the pairs.
        """
        width = len(self.signs)
        seen = {pair: True for pair in pairs}
        at = 0
        while at < len(pairs):
            state, spot = pairs[at]
            if not self.goal_ends >> state & 1 or self._full.get(pairs[at]) is False:
                return True
            for number in range(width):
                piece = self.table[spot * width + number]
                aim = self.goal_forth[number * self.goal_many + state]
                if piece >= 0 and not aim:
                    return True
                pair = (aim.bit_length() - 1, piece)
                if piece >= 0 and pair not in seen:
                    seen[pair] = True
                    pairs.append(pair)
            at += 1
        return False

    def _is_full(self, state, spot):
        """Whether all texts that the table lets pass from the spot lead from the state to ends of the goal."""
        if (state, spot) not in self._full:
            pairs = [(state, spot)]
            if self._goes_wrong(pairs):
                self._full[(state, spot)] = False
            else:
                for pair in pairs:
                    self._full[pair] = True
        return self._full[(state, spot)]

    def _led_on(self, parts, aims, spot):
        """The parts, settled, and the states of the goal to which they or the aims lead."""
        pairs = self.settle(parts)
        for kind, mask in pairs:
            if kind <= len(self.signs):
                aims = aims | self._jump(kind, mask)
        # Where all that can follow leads to the goal, nothing else needs to be kept.
        if any([self._is_full(state, spot) for state in bits(aims)]):
            return (ALL, ())
        return (aims, pairs)

    def first(self):
        """The states of the goal and the parts at first."""
        parts = {}
        self.put(parts, 0, self.partner_ends)
        return self._led_on(parts, 0, 0)

    def after(self, aims, pairs, sign, spot):
        """The states of the goal and the parts behind the sign, which leads to the spot of the table."""
        if aims == ALL:
            return (ALL, ())
        return self._led_on(self.moved(pairs, sign), self.goal_behind(aims, sign), spot)

    def wins(self, aims, pairs):
        """Whether what has been read leads to the goal."""
        return aims == ALL or aims & self.goal_ends != 0


class Ahead(Meeting):
    """The ends that lead to the goal when they are put ahead of some end of the partner.

    The state of the goal is the one to which what has been read leads. From each place on, what
    is still to be read may be what rules use up; then their uses are gone through from the last
    one back to the first one.
    """

    def __init__(self, signs, rules, partner, goal):
        uses = [(right, behind, ahead, middle) for ahead, middle, behind, right in uses_of(rules)]
        Meeting.__init__(self, signs, rules, partner, goal, uses)
        self._ending = self._endings()
        self.set_useful([1] + [0] * len(self.signs))

    def _endings(self):
        """For each state of the goal the states of the partner from which a text leads to ends of both."""
        found = [0] * self.goal_many
        fresh = [self.partner_ends if self.goal_ends >> state & 1 else 0 for state in range(self.goal_many)]
        waiting = bits(self.goal_ends)
        while waiting:
            state = waiting.pop()
            added = fresh[state] & ~found[state]
            found[state] = found[state] | added
            if not added:
                continue
            for number, sign in enumerate(self.signs):
                aim = self._sources(added, sign)
                for ahead in bits(self.goal_back[number * self.goal_many + state]):
                    if aim & ~found[ahead]:
                        fresh[ahead] = fresh[ahead] | aim
                        waiting.append(ahead)
        return found

    def _begun(self, parts, aims):
        """The state of the goal, and the parts together with those that begin at it, settled."""
        for kind, middle in enumerate([""] + list(self.signs)):
            self.put(parts, kind, united(self._ending, 0, bits(self.goal_behind(aims, middle))))
        return (aims, self.settle(parts))

    def first(self):
        """The state of the goal and the parts at first."""
        return self._begun({}, 1)

    def after(self, aims, pairs, sign, spot):
        """The state of the goal and the parts behind the sign, which leads to the spot of the table."""
        return self._begun(self.moved(pairs, sign), self.goal_behind(aims, sign))

    def wins(self, aims, pairs):
        """Whether what has been read leads to the goal."""
        return len(pairs) > 0 and pairs[0][0] == 0 and pairs[0][1] & 1 == 1


def least_met(meeting, most):
    """The least automaton of the ends that lead to the goal; None if more than most sets of states come up."""
    signs, table = meeting.signs, meeting.table
    nodes = [(0, meeting.first())]
    found = {nodes[0]: 0}
    nexts = []
    at = 0
    while at < len(nodes):
        if len(nodes) > most:
            return None
        spot, (aims, pairs) = nodes[at]
        for number, sign in enumerate(signs):
            piece = table[spot * len(signs) + number]
            if piece < 0:
                nexts.append(-1)
                continue
            node = (piece, meeting.after(aims, pairs, sign, piece))
            if not node[1][0] and not node[1][1]:
                nexts.append(-1)
                continue
            if node not in found:
                found[node] = len(nodes)
                nodes.append(node)
            nexts.append(found[node])
        at += 1
    accepting = [meeting.wins(aims, pairs) for _, (aims, pairs) in nodes]
    return smallest(signs, nexts, accepting)
