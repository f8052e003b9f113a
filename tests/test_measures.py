"""Point [16]: how many meanings a lot has, or a ring of endlessly many."""

import unittest

import brute
from lotkit import BOOKS, BRACKETS, FREE, GROUP, NOTHING, bag, chain, ends_of, loop, some_bag, some_lot
from shrunkalike.books import Book
from shrunkalike.lots import Lot, single, whole
from shrunkalike.measures import Measured, measured


class FiniteTest(unittest.TestCase):
    def check(self, lot, number, longest):
        told = measured(lot)
        self.assertIsInstance(told, Measured)
        self.assertEqual((told.holds, told.number, told.longest, told.ring), (True, number, longest, None))
        self.assertIs(bool(told), True)
        self.assertIs(type(told.number), int)

    def test_none(self):
        for book in BOOKS:
            self.check(Lot(book, NOTHING), 0, None)

    def test_the_empty_text(self):
        for book in BOOKS:
            self.check(single(book, ""), 1, 0)
        self.check(whole(Book("ab", (("a", ""), ("b", "")))), 1, 0)

    def test_single_ones(self):
        self.check(single(GROUP, "aab"), 1, 1)
        self.check(single(FREE, "a" * 200), 1, 200)
        self.check(Lot(GROUP, chain("abab")), 1, 0)

    def test_against_all_ends(self):
        chance = brute.made(1)
        for book in BOOKS:
            for _ in range(6):
                lot = some_bag(chance, book, 6, 6)
                listed = lot.listed(200)
                self.check(lot, len(listed), max([len(end) for end in listed], default=None))

    def test_finite_ones_as_they_come(self):
        chance = brute.made(2)
        seen = {True: 0, False: 0}
        for book in BOOKS:
            longest = 5 if len(book.signs) > 2 else 8
            for _ in range(12):
                lot = some_lot(chance, book)
                told = measured(lot)
                seen[told.holds] += 1
                if told and (told.longest or 0) <= longest:
                    known = [end for end in ends_of(book, longest + 1) if brute.accepts(lot.automaton, end)]
                    self.check(lot, len(known), max([len(end) for end in known], default=None))
        self.assertGreater(min(seen.values()), 50)

    def test_many(self):
        level = bag(FREE, ["a", "b"])
        lot = level
        for _ in range(49):
            lot = lot * level
        self.check(lot, 2 ** 50, 50)
        self.check(measured(lot=lot) and (lot | single(FREE, "")), 2 ** 50 + 1, 50)

    def test_unequal_ways(self):
        self.check(bag(FREE, ["", "a", "aab", "b", "bbbb"]), 5, 4)
        self.check(whole(Book("a", (("aaa", "a"),))), 3, 2)


class EndlessTest(unittest.TestCase):
    def check(self, lot):
        told = measured(lot)
        self.assertEqual((told.holds, told.number, told.longest), (False, None, None))
        self.assertIs(bool(told), False)
        self.assertIs(type(told.ring), tuple)
        x, y, z = told.ring
        self.assertNotEqual(y, "")
        for many in (0, 1, 2, 3, 7, 20):
            text = x + y * many + z
            self.assertTrue(brute.accepts(lot.automaton, text))
            self.assertFalse(brute.steps(lot.book.rules, text))
            if len(text) <= 200:
                self.assertIn(text, lot)
        return told.ring

    def test_as_they_come(self):
        chance = brute.made(3)
        seen = 0
        for book in BOOKS:
            for _ in range(12):
                lot = some_lot(chance, book)
                if not measured(lot):
                    seen += 1
                    self.check(lot)
                else:
                    self.assertEqual(lot.counted(100), 0)
        self.assertGreater(seen, 50)

    def test_plain_ones(self):
        self.assertEqual(self.check(single(GROUP, "a").again())[1], "a")
        self.check(whole(GROUP))
        self.check(whole(BRACKETS))
        self.check(whole(GROUP) - single(GROUP, ""))

    def test_a_ring_far_away(self):
        lot = single(FREE, "a" * 190) * single(FREE, "ab").again() * single(FREE, "bb" * 50)
        self.check(lot)

    def test_a_state_behind_the_ring_is_on_no_ring(self):
        lot = single(FREE, "b").again() * single(FREE, "a")
        x, y, z = self.check(lot)
        self.assertEqual(set(y), {"b"})
        # The state 1 comes behind the ring and ahead of no other one.
        lot = (single(FREE, "a") * single(FREE, "a").again()) | single(FREE, "b")
        self.check(lot)

    def test_long_ring(self):
        size = 40
        lot = Lot(FREE, (size, tuple((k, "a", (k + 1) % size) for k in range(size)), (size - 1,)))
        self.assertEqual(len(self.check(lot)[1]), size)
        self.assertFalse(measured(Lot(GROUP, loop("a"))))


if __name__ == "__main__":
    unittest.main()
