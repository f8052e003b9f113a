"""Texts sorted by asking which texts are in a lot, so that an automaton of all texts in it is learned.

Texts of one class are not parted by any text that has been asked; texts of different classes are
parted. The classes are the leaves of a tree: at each node a text is put behind the one that is
sorted, and the lot tells on which side it goes on. Each class has an end of its own and leads on by
each sign to the class of this end and the sign (Angluin's way; where a text turns out to lead to a
wrong class, Rivest and Schapire's way finds the class that is to be split).
"""

from shrunkalike.machines import piece_table
from shrunkalike.machines import trail
from shrunkalike.piles import first_rights
from shrunkalike.piles import left_behind
from shrunkalike.settling import least_rules
from shrunkalike.words import next_states


class Sorting:
    """The classes of texts that are parted by the texts asked so far; all of them are kept as ends."""

    def __init__(self, lot):
        self.signs = lot.book.signs
        self._rules = least_rules(lot.book)
        self._rights = first_rights(self._rules)
        self._numbers = {sign: number for number, sign in enumerate(self.signs)}
        self._lot_nexts = next_states(self.signs, lot.automaton)
        self._lot_ends = {end: True for end in lot.automaton[2]}
        self.ends = []
        self.nexts = []
        self._asked = [""]
        self._inner = {}
        self._leaves = {}
        self._paths = []
        self._class_of("")

    def _behind(self, end, text):
        """The meaning of the end and then the text."""
        return left_behind(self._rights, end, text, False)

    def _is_in(self, one, other):
        """Whether the one and then the other, both of which are ends, are in the lot."""
        width = len(self.signs)
        state = 0
        for sign in left_behind(self._rights, one, other, True):
            state = self._lot_nexts[state * width + self._numbers[sign]]
            if state < 0:
                return False
        return state in self._lot_ends

    def accepting(self):
        """For each class whether its texts are in the lot."""
        return [self._paths[number][0][1] for number in range(len(self.ends))]

    def _add(self, end, path):
        """A class of its own for the end; the path leads to it in the tree."""
        self._leaves[path[-1]] = len(self.ends)
        self.ends.append(end)
        self._paths.append(path)

    def _class_of(self, end):
        """The number of the class of the end, which may be a new one."""
        path = [(0, self._is_in(end, ""))]
        while path[-1] in self._inner:
            node = self._inner[path[-1]]
            path.append((node, self._is_in(end, self._asked[node])))
        if path[-1] not in self._leaves:
            self._add(end, path)
        return self._leaves[path[-1]]

    def lead_on(self, most):
        """All classes lead on by each sign, unless there are more than so many classes."""
        width = len(self.signs)
        while len(self.nexts) < len(self.ends) * width and len(self.ends) <= most:
            number, sign = divmod(len(self.nexts), width)
            self.nexts.append(self._class_of(self._behind(self.ends[number], self.signs[sign])))

    def parted_by(self, one, other):
        """A text that parts the texts of two classes."""
        place = 0
        while self._paths[one][place] == self._paths[other][place]:
            place += 1
        return self._asked[self._paths[one][place][0]]

    def _split(self, number, end, asked):
        """The end, which is in the class, gets one of its own, since what is asked parts it from the class."""
        width = len(self.signs)
        path = self._paths[number]
        side = self._is_in(self.ends[number], asked)
        node = len(self._asked)
        made = len(self.ends)
        self._asked.append(asked)
        self._inner[path[-1]] = node
        self._add(end, path + [(node, not side)])
        self._leaves[(node, side)] = number
        self._paths[number] = path + [(node, side)]
        for spot, aim in enumerate(list(self.nexts)):
            if aim == number:
                led = self._behind(self.ends[spot // width], self.signs[spot % width])
                if self._is_in(led, asked) != side:
                    self.nexts[spot] = made

    def _ways(self, number, text):
        """The classes to which the beginnings of the text lead from the class."""
        found = [number]
        for sign in text:
            found.append(self.nexts[found[-1] * len(self.signs) + self._numbers[sign]])
        return found

    def refine(self, number, text, tail):
        """A class is split, since the tail parts the class's own end, then the text, from where it leads."""
        ways = self._ways(number, text)
        wanted = self._is_in(self.ends[number], self._behind("", text + tail))
        low, high = 0, len(text)
        while high - low > 1:
            middle = (low + high) // 2
            if self._is_in(self.ends[ways[middle]], self._behind("", text[middle:] + tail)) == wanted:
                low = middle
            else:
                high = middle
        end = self._behind(self.ends[ways[low]], text[low])
        self._split(ways[high], end, self._behind("", text[high:] + tail))

    def _wrong_rule(self):
        """A class, a side of a rule and a tail with which to refine, since both sides lead to unlike classes."""
        for number, end in enumerate(self.ends):
            for left, right in self._rules:
                one, other = self._ways(number, left)[-1], self._ways(number, right)[-1]
                if one != other:
                    tail = self.parted_by(one, other)
                    if self._is_in(self._behind(end, left), tail) != self._is_in(self.ends[one], tail):
                        return (number, left, tail)
                    return (number, right, tail)
        return None

    def _wrong_end(self):
        """The least end that the classes do not tell rightly, or None."""
        width = len(self.signs)
        table = piece_table(self.signs, self._rules)
        wins = self.accepting()
        nodes = [(0, 0, 0)]
        links = [None]
        seen = {nodes[0]: True}
        at = 0
        while at < len(nodes):
            number, spot, state = nodes[at]
            if wins[number] != (state in self._lot_ends):
                return trail(links, at, self.signs)
            for sign in range(width):
                aim = self._lot_nexts[state * width + sign] if state >= 0 else -1
                node = (self.nexts[number * width + sign], table[spot * width + sign], aim)
                if node[1] >= 0 and node not in seen:
                    seen[node] = True
                    nodes.append(node)
                    links.append((at, sign))
            at += 1
        return None

    def mistake(self):
        """What to refine; None if the classes are an automaton of all texts in the lot.

        It is one if it tells all ends rightly, and both sides of each rule lead from each class to
        one class, since each text then leads where its end leads.
        """
        found = self._wrong_rule()
        if found is None:
            end = self._wrong_end()
            if end is not None:
                found = (0, end, "")
        return found


def sorted_out(lot, most):
    """The classes of all texts that the lot parts, or as many classes as most and one more."""
    sorting = Sorting(lot)
    sorting.lead_on(most)
    mistake = sorting.mistake() if len(sorting.ends) <= most else None
    while mistake is not None:
        number, text, tail = mistake
        sorting.refine(number, text, tail)
        sorting.lead_on(most)
        mistake = sorting.mistake() if len(sorting.ends) <= most else None
    return sorting
