"""The closed edges of an automaton with their least prices and texts, found the least one first.

A fact is a triple of a kind and two states. Kind 0 stands for the empty text, the next ones stand
for the signs, and the others for pairs of signs that are a half of a long left side. A fact of a
kind holds if some text that is read on a way between the states is led to the kind's text. A fact
has the number (kind * many + state) * many + following.

The value of a fact is (price, size, text, steps). A greater part never makes a lesser whole, so
the least value that waits can never be bettered (Knuth's way with grammars).
"""

from heapq import heappush, heappop

from shrunkalike.checks import LONGEST_TEXT
from shrunkalike.closures import long_halves
from shrunkalike.machines import bits

NOTHING = (0, 0, "", 0)
NO_DEED = -1


def sum_of(one, other, price, count):
    """The value of the one and then the other; a text that is too long is told by its size alone."""
    size = one[1] + other[1]
    if size > LONGEST_TEXT:
        return (one[0] + other[0] + price, LONGEST_TEXT + 1, "", one[3] + other[3] + count)
    return (one[0] + other[0] + price, size, one[2] + other[2], one[3] + other[3] + count)


class Weighing:
    """All facts of an automaton that hold by the deeds (left, right, price), with their values.

    The order has the numbers of the facts as they were found. The reason of a fact is a triple: the
    number of a deed or -1 for none, and the numbers of one or two facts, or -1 for none. If the
    wanted triple is told, no more facts are looked for when it has been found.
    """

    def __init__(self, signs, deeds, automaton, with_texts, wanted=None):
        halves = long_halves([(left, right) for left, right, _ in deeds])
        self.names = [""] + list(signs) + halves
        self.many = automaton[0]
        self.worths = {}
        self.reasons = {}
        self.order = []
        self.forth = [0] * (len(self.names) * self.many)
        self._back = [0] * len(self.forth)
        self._kinds = {name: kind for kind, name in enumerate(self.names)}
        self._firsts = [[] for _ in self.names]
        self._seconds = [[] for _ in self.names]
        self._alone = [[] for _ in self.names]
        self._queue = []
        self._set_joins(signs, halves)
        self._set_deeds(deeds)
        self._set_facts(automaton, with_texts)
        self._run(len(signs) + 1, wanted)

    def _set_join(self, first, second, whole, number, price):
        """What is joined from the texts of the first two kinds."""
        kinds = self._kinds
        self._firsts[kinds[first]].append((kinds[second], kinds[whole], number, price))
        self._seconds[kinds[second]].append((kinds[first], kinds[whole], number, price))

    def _set_joins(self, signs, halves):
        """What is joined without a deed."""
        self._set_join("", "", "", NO_DEED, 0)
        for sign in signs:
            self._set_join("", sign, sign, NO_DEED, 0)
            self._set_join(sign, "", sign, NO_DEED, 0)
        for half in halves:
            self._set_join(half[0], half[1], half, NO_DEED, 0)

    def _set_deeds(self, deeds):
        """What is joined by a deed."""
        for number, (left, right, price) in enumerate(deeds):
            if len(left) > 1:
                half = left[0] if len(left) == 2 else left[:2]
                self._set_join(half, left[len(half):], right, number, price)
            elif left:
                self._alone[self._kinds[left]].append((self._kinds[right], number, price))
            else:
                for state in range(self.many):
                    key = self.key(self._kinds[right], state, state)
                    self._take(key, (price, 0, "", 1), (number, -1, -1))

    def _set_facts(self, automaton, with_texts):
        """The facts that hold by themselves."""
        for state in range(self.many):
            self._take(self.key(0, state, state), NOTHING, (NO_DEED, -1, -1))
        for state, sign, following in automaton[1]:
            value = (0, len(sign), sign, 0) if with_texts else NOTHING
            self._take(self.key(self._kinds[sign], state, following), value, (NO_DEED, -1, -1))

    def key(self, kind, state, following):
        """The number of a fact."""
        return (kind * self.many + state) * self.many + following

    def parts(self, key):
        """The kind and the states of the fact of this number."""
        rest, following = divmod(key, self.many)
        kind, state = divmod(rest, self.many)
        return kind, state, following

    def _take(self, key, value, reason):
        """The value is kept, if it is the least one of its fact so far."""
        best = self.worths.get(key)
        if best is None or value < best:
            self.worths[key] = value
            self.reasons[key] = reason
            heappush(self._queue, (value, key))

    def _offer(self, key, one, other, number, price):
        """The two facts make the fact of this number."""
        best = self.worths.get(key)
        mine, yours = self.worths[one], self.worths[other]
        if best is not None:
            sum_price = mine[0] + yours[0] + price
            if best[0] < sum_price or best[0] == sum_price and best[1] < mine[1] + yours[1]:
                return
        value = sum_of(mine, yours, price, 0 if number < 0 else 1)
        self._take(key, value, (number, one, other))

    def key_of(self, edge):
        """The number of the fact of this triple."""
        state, sign, following = edge
        return self.key(self._kinds[sign], state, following)

    def found(self, edge):
        """Whether the triple is a fact that has been found."""
        state, sign, following = edge
        return self.forth[self._kinds[sign] * self.many + state] >> following & 1 == 1

    def _run(self, width, wanted):
        """The facts are found, the least value first."""
        missing = width * self.many * self.many
        while self._queue and missing and (wanted is None or not self.found(wanted)):
            value, key = heappop(self._queue)
            kind, state, following = self.parts(key)
            spot = kind * self.many + state
            if self.forth[spot] >> following & 1:
                continue
            self.forth[spot] = self.forth[spot] | 1 << following
            spot = kind * self.many + following
            self._back[spot] = self._back[spot] | 1 << state
            self.order.append(key)
            if kind < width:
                missing -= 1
            self._go_on(value, key)

    def _go_on(self, value, key):
        """All that the fact makes with the facts that have been found."""
        many = self.many
        kind, state, following = self.parts(key)
        for second, whole, number, price in self._firsts[kind]:
            far = second * many + following
            aim = whole * many + state
            for end in bits(self.forth[far] & ~self.forth[aim]):
                self._offer(aim * many + end, key, far * many + end, number, price)
        for first, whole, number, price in self._seconds[kind]:
            mask = self._back[first * many + state] & ~self._back[whole * many + following]
            for start in bits(mask):
                near = (first * many + start) * many + state
                self._offer((whole * many + start) * many + following, near, key, number, price)
        for whole, number, price in self._alone[kind]:
            made = (value[0] + price, value[1], value[2], value[3] + 1)
            self._take(self.key(whole, state, following), made, (number, key, -1))
