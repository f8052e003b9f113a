"""Point [29]: whether two group books are the same group."""

import itertools
import unittest

import brute
import groupkit
from groupkit import C, D4, E8, Q8, S3, TABLES, V4
from lotkit import GROUP, rotations
from shrunkalike.books import Book
from shrunkalike.groupparts import parts
from shrunkalike.samegroups import same_group
from test_groupparts import assert_translators


def are_alike(one, other):
    """Whether two tables of numbers are alike, by trying all ways to give the one to the other."""
    size = len(one)
    if size != len(other):
        return False
    for row in itertools.permutations(range(1, size)):
        given = (0,) + row
        if all(given[one[i][j]] == other[given[i]][given[j]] for i in range(size) for j in range(size)):
            return True
    return False


class KitTest(unittest.TestCase):
    def test_tables_are_groups_and_unlike(self):
        for table in TABLES:
            size = len(table)
            self.assertEqual(table[0], list(range(size)))
            for i, j, k in itertools.product(range(size), repeat=3):
                self.assertEqual(table[table[i][j]][k], table[i][table[j][k]])
            for row in table:
                self.assertEqual(sorted(row), list(range(size)))
        counts = {size: sum(1 for table in TABLES if len(table) == size) for size in range(2, 10)}
        self.assertEqual(counts, {2: 1, 3: 1, 4: 2, 5: 1, 6: 2, 7: 1, 8: 5, 9: 2})
        self.assertEqual(sum(1 for i in range(8) if Q8[i][i] == 0), 2)
        self.assertEqual(sum(1 for i in range(8) if D4[i][i] == 0), 6)
        self.assertEqual(sum(1 for i in range(8) if E8[i][i] == 0), 8)
        for one, other in itertools.combinations([table for table in TABLES if len(table) <= 6], 2):
            self.assertFalse(are_alike(one, other))


class SameGroupTest(unittest.TestCase):
    def assert_same(self, one, other):
        told = same_group(one, other)
        self.assertTrue(told.holds is True and bool(told))
        self.assertIsNone(told.reason)
        assert_translators(self, one, other, told.there, told.back)

    def assert_unlike(self, one, other, reason):
        told = same_group(one, other)
        self.assertTrue(told.holds is False and not told)
        self.assertEqual((told.there, told.back), (None, None))
        self.assertEqual(told.reason, reason)

    def test_by_hand(self):
        self.assert_same(GROUP, GROUP)
        self.assert_same(GROUP, Book("xy", (("yx", ""), ("xyx", "x"), ("xy", ""))))
        self.assert_same(rotations(4), rotations(4))
        self.assert_unlike(rotations(4), Book("abc", tuple((x + y, (set("abc") - {x, y}).pop() if x != y else "")
                                                           for x in "abc" for y in "abc")), ("table", 0, "abc", 1, 0))
        self.assert_unlike(GROUP, rotations(3), ("rank", 1, 0))
        self.assert_unlike(rotations(3), GROUP, ("rank", 0, 1))
        both = Book("abcd", (("ab", ""), ("ba", ""), ("cc", ""), ("dd", "")))
        self.assert_unlike(GROUP, both, ("table", 1, "c", 0, 2))
        self.assert_unlike(both, GROUP, ("table", 0, "c", 2, 0))
        told = same_group(one=both, other=GROUP)
        self.assertEqual(told.reason, ("table", 0, "c", 2, 0))

    def test_all_tables_of_all_sizes(self):
        chance = brute.made(2)
        books = [groupkit.group_book(chance, [(table, 1)], 2)[0] for table in TABLES]
        again = [groupkit.group_book(chance, [(table, 1)], 2)[0] for table in TABLES]
        for i, one in enumerate(books):
            for j, other in enumerate(again):
                if i == j:
                    self.assert_same(one, other)
                else:
                    self.assert_unlike(one, other, ("table", 0, one.signs, 1, 0))

    def test_same_rank_and_tables_but_other_parts(self):
        chance = brute.made(3)
        for one, other in (([(C[1], 3)], [(C[1], 2), (C[1], 2)]), ([(C[2], 2)], [(C[2], 1), (C[1], 2)]),
                           ([(C[1], 3), (C[2], 1)], [(C[2], 2), (C[1], 2)]),
                           ([(C[2], 2), (C[2], 1)], [(C[2], 1), (C[1], 2), (C[2], 1)]),
                           ([(C[1], 3), (C[1], 2)], [(C[1], 2)] * 3),
                           ([(V4, 1), (C[4], 1)], [(C[4], 1), (V4, 1)])):
            for _ in range(4):
                self.assert_same(groupkit.group_book(chance, one, 2)[0], groupkit.group_book(chance, other, 2)[0])

    def test_one_part_changed(self):
        chance = brute.made(4)
        for one, other in (([(C[2], 1), (C[3], 1)], [(C[2], 1), (C[4], 1)]), ([(V4, 1), (V4, 1)], [(V4, 1), (C[4], 1)]),
                           ([(S3, 1), (C[3], 1)], [(C[6], 1), (C[3], 1)]), ([(C[2], 1)] * 3, [(C[2], 1)] * 4),
                           ([(C[2], 2), (C[3], 1)], [(C[2], 2), (C[2], 1)]), ([(C[1], 2), (C[2], 1)], [(C[1], 2)])):
            for _ in range(4):
                mine, yours = groupkit.group_book(chance, one)[0], groupkit.group_book(chance, other)[0]
                self.assert_unlike(mine, yours, self.reason(one, other, mine, yours))
                self.assert_unlike(yours, mine, self.reason(other, one, yours, mine))

    def reason(self, groups, other_groups, book, other_book):
        """The reason by the words of the document; None if both are the same group."""
        ranks = [sum(many - 1 for _, many in told) for told in (groups, other_groups)]
        if ranks[0] != ranks[1]:
            return ("rank", ranks[0], ranks[1])
        for side, (told, made) in enumerate(((groups, book), (other_groups, other_book))):
            for loops in parts(made).tables:
                if loops:
                    table = self.table(made, loops)
                    many = [sum(1 for t, _ in known if are_alike(t, table)) for known in (groups, other_groups)]
                    if many[0] != many[1]:
                        return ("table", side, loops, many[0], many[1])
        return None

    def table(self, book, loops):
        ends = [""] + list(loops)
        return [[ends.index(book(x + y)) for y in ends] for x in ends]

    def test_some_groups(self):
        chance = brute.made(5)
        found = {True: 0, False: 0}
        for _ in range(160):
            one, other = groupkit.some_group(chance, 6), groupkit.some_group(chance, 6)
            mine = groupkit.group_book(chance, one, 2)[0]
            yours = groupkit.group_book(chance, other, 2)[0]
            reason = self.reason(one, other, mine, yours)
            found[reason is None] += 1
            if reason is None:
                self.assert_same(mine, yours)
            else:
                self.assert_unlike(mine, yours, reason)
        self.assertGreater(min(found.values()), 5)


if __name__ == "__main__":
    unittest.main()
