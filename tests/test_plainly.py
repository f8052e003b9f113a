"""Point [17]: automata of all texts whose meanings are in a lot, or meanings that are parted."""

import unittest

import brute
from lotkit import BOOKS, BRACKETS, FREE, GROUP, NOTHING, TWO_GROUPS, bag, loop, reads, rotations, some_bag, some_books, some_lot
from shrunkalike.automata import least_automaton
from shrunkalike.books import Book
from shrunkalike.errors import BadNumber
from shrunkalike.lots import Lot, single, whole
from shrunkalike.plainly import Plainly, plainly
from shrunkalike.quotients import some_behind


def classes(lot, most):
    """The number of states that tell all texts, by what must stand behind a text; at most one above most."""
    known, at = [lot], 0
    while at < len(known) and len(known) <= most:
        for sign in lot.book.signs:
            behind = some_behind(single(lot.book, sign), known[at])
            if behind not in known:
                known.append(behind)
        at += 1
    return min(len(known), most + 1)


class PlainlyTest(unittest.TestCase):
    def check_automaton(self, lot, told, longest):
        self.assertEqual((told.holds, told.meanings, told.parting), (True, None, None))
        self.assertIs(bool(told), True)
        signs = lot.book.signs
        self.assertEqual(least_automaton(signs, told.automaton), told.automaton)
        for text in brute.texts(signs, longest):
            self.assertIs(reads(told.automaton, text), text in lot)
        for end in lot.listed(40):
            self.assertTrue(reads(told.automaton, end))

    def check_parted(self, lot, told, most):
        self.assertEqual((told.holds, told.automaton), (False, None))
        self.assertIs(bool(told), False)
        self.assertIs(type(told.meanings), tuple)
        self.assertEqual(len(told.meanings), most + 1)
        self.assertEqual(sorted(set(told.meanings), key=brute.order), list(told.meanings))
        for end in told.meanings:
            self.assertFalse(brute.steps(lot.book.rules, end))
        self.assertIs(type(told.parting), tuple)
        self.assertEqual([row[:2] for row in told.parting],
                         [(i, j) for i in range(most + 1) for j in range(i + 1, most + 1)])
        for i, j, text in told.parting:
            self.assertNotEqual(told.meanings[i] + text in lot, told.meanings[j] + text in lot)

    def check(self, lot, most, longest=4):
        told = plainly(lot, most)
        self.assertIsInstance(told, Plainly)
        if told:
            self.check_automaton(lot, told, longest)
        else:
            self.check_parted(lot, told, most)
        return told

    def test_as_they_come(self):
        chance = brute.made(1)
        seen = {True: 0, False: 0}
        for book in BOOKS + some_books(2, 20):
            for kind in range(3):
                lot = some_lot(chance, book) if kind else some_bag(chance, book, 4, 4)
                many = classes(lot, 12)
                for most in sorted({1, 2, 5, min(many, 12), max(1, min(many, 12) - 1), 12}):
                    told = self.check(lot, most)
                    self.assertIs(told.holds, many <= most)
                    seen[told.holds] += 1
        self.assertGreater(min(seen.values()), 100)

    def test_empty_and_whole(self):
        for book in BOOKS:
            told = self.check(Lot(book, NOTHING), 1)
            self.assertEqual(told.automaton, (1, (), ()))
            told = self.check(whole(book), 1)
            self.assertEqual(told.automaton, loop(book.signs))

    def test_just_as_many_states_and_one_more(self):
        for size in range(2, 10):
            book = rotations(size)
            lot = single(book, "a")
            self.assertEqual(self.check(lot, size, 2).automaton[0], size)
            self.assertFalse(self.check(lot, size - 1))

    def test_the_state_from_which_nothing_is_accepted_counts(self):
        # Rows of b's, and an a: three states, and one from which nothing is accepted.
        lot = single(FREE, "b").again() * single(FREE, "a")
        self.assertEqual(lot.automaton[0], 2)
        self.assertEqual(self.check(lot, 3).automaton, lot.automaton)
        self.assertFalse(self.check(lot, 2))
        lot = Lot(FREE, NOTHING)
        self.assertTrue(self.check(lot, 1))
        lot = single(FREE, "")
        self.assertFalse(self.check(lot, 1))
        self.assertEqual(self.check(lot, 2).automaton, (1, (), (0,)))
        chain = single(FREE, "a" * 38)
        self.assertEqual(self.check(chain, 40).automaton[0], 39)
        self.assertFalse(self.check(chain, 39))
        self.assertFalse(self.check(single(FREE, "a" * 39), 40))

    def test_groups(self):
        # The a's and b's count up and down round 40.
        ring = (40, tuple(sorted([(k, "a", (k + 1) % 40) for k in range(40)]
                                 + [(k, "b", (k - 1) % 40) for k in range(40)])), (0,))
        lot = Lot(GROUP, ring)
        self.assertEqual(plainly(lot, 40).automaton, least_automaton("ab", ring))
        self.assertFalse(self.check(lot, 39))
        self.assertFalse(self.check(single(GROUP, ""), 40))
        self.assertFalse(self.check(single(TWO_GROUPS, "ab"), 40))
        self.assertFalse(self.check(bag(BRACKETS, ["", "a"]), 40))

    def test_by_hand(self):
        # All texts whose meaning has an even number of signs.
        book = Book("ab", (("ab", ""), ("ba", "")))
        lot = Lot(book, (2, ((0, "a", 1), (0, "b", 1), (1, "a", 0), (1, "b", 0)), (0,)))
        told = plainly(lot=lot, most=2)
        self.assertEqual(told.automaton, (2, ((0, "a", 1), (0, "b", 1), (1, "a", 0), (1, "b", 0)), (0,)))
        told = plainly(lot, 1)
        self.assertEqual(len(told.meanings), 2)
        self.assertEqual(told.parting[0][:2], (0, 1))
        # What stands in the brackets is no matter, but that none is closed that was not opened.
        lot = single(BRACKETS, "a").again()
        self.assertFalse(self.check(whole(BRACKETS) - lot, 40))

    def test_wrong_turns_that_are_far_away(self):
        # The classes are all alike for short texts.
        for book in (FREE, GROUP):
            lot = single(book, "a" * 60)
            for most in (2, 39, 40):
                self.assertFalse(self.check(lot, most))
        lot = whole(FREE) - single(FREE, "ab" * 18)
        self.assertEqual(classes(lot, 40), 38)
        self.assertEqual(self.check(lot, 40).automaton[0], 38)

    def test_numbers_outside(self):
        lot = whole(GROUP)
        for thing in (0, -1, 41, True, False, None, "5", (3,), 10 ** 59):
            with self.assertRaises(BadNumber) as caught:
                plainly(lot, thing)
            self.assertIs(caught.exception.thing, thing)
        self.assertTrue(plainly(lot, 1))
        self.assertTrue(plainly(lot, 40))


if __name__ == "__main__":
    unittest.main()
