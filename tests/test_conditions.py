"""Point [19]: conditions on an unknown meaning."""

import unittest

import brute
from lotkit import BOOKS, BRACKETS, FREE, GROUP, LOOSE, TWO_GROUPS, bag, ends_of, loop, some_books, some_text
from shrunkalike.books import Book
from shrunkalike.conditions import solutions
from shrunkalike.errors import BadCondition, NotSettled, TooMany
from shrunkalike.lots import Lot, single, whole


def holds(book, condition, m):
    ahead, behind, goal, like = condition
    return (book(ahead + m + behind) == book(goal)) is like


class SolutionsTest(unittest.TestCase):
    def test_against_all_short_ends(self):
        chance = brute.made(1)
        found = 0
        for book in BOOKS + some_books(3, 20):
            ends = ends_of(book, 5 if len(book.signs) < 3 else 3)
            for many in (1, 1, 1, 2, 2, 3, 8):
                m = chance.choice(ends)
                conditions = []
                for _ in range(many):
                    ahead, behind = some_text(chance, book, 3), some_text(chance, book, 3)
                    like = chance.random() < 0.5
                    # A goal that some known meaning reaches, so that something is found.
                    goal = book(ahead + (m if like else chance.choice(ends)) + behind)
                    conditions.append((ahead, behind, goal, like))
                lot = solutions(book, conditions)
                self.assertIs(type(lot), Lot)
                self.assertEqual(lot.book, book)
                for end in ends:
                    wanted = all(holds(book, condition, end) for condition in conditions)
                    self.assertIs(end in lot, wanted)
                    found += wanted
        self.assertGreater(found, 300)

    def test_texts_that_are_no_ends(self):
        chance = brute.made(2)
        for book in BOOKS:
            for _ in range(4):
                condition = [some_text(chance, book, 6) for _ in range(3)]
                for like in (True, False):
                    lot = solutions(book, [condition + [like]])
                    for end in ends_of(book, 3):
                        self.assertIs(end in lot, holds(book, condition + [like], end))

    def test_none(self):
        for book in BOOKS:
            self.assertEqual(solutions(book, ()), whole(book))
            self.assertEqual(solutions(book, []), whole(book))

    def test_by_hand(self):
        self.assertEqual(solutions(GROUP, (("a", "", "", True),)).listed(3), ("b",))
        self.assertEqual(solutions(GROUP, (("a", "", "", False),)), whole(GROUP) - single(GROUP, "b"))
        self.assertEqual(solutions(GROUP, (("a", "", "", True), ("", "", "b", False))).listed(3), ())
        self.assertEqual(solutions(book=BRACKETS, conditions=(("aa", "bb", "", True),)).listed(9),
                         ("", "ba", "bbaa"))
        self.assertEqual(solutions(FREE, (("ab", "ba", "abba", True),)).listed(9), ("",))
        self.assertEqual(solutions(FREE, (("ab", "ba", "aba", True),)).listed(9), ())
        told = solutions(TWO_GROUPS, [["a", "", "a", False], ["", "a", "ba", False], ["", "", "c", False]])
        self.assertEqual(told, whole(TWO_GROUPS) - bag(TWO_GROUPS, ["", "b", "c"]))

    def test_8_and_9(self):
        conditions = tuple(("", "", "a" * k, False) for k in range(8))
        lot = solutions(FREE, conditions)
        self.assertEqual(lot, whole(FREE) - bag(FREE, ["a" * k for k in range(8)]))
        self.bad(FREE, conditions + (("", "", "b", False),), -1)
        self.bad(FREE, conditions + (5,), -1)

    def bad(self, book, thing, place):
        with self.assertRaises(BadCondition) as caught:
            solutions(book, thing)
        self.assertEqual(caught.exception.place, place)

    def test_wrong_ones(self):
        right = ("a", "b", "ab", True)
        for thing in (None, 5, "ab", "", {}, True, right + (5,) * 5, iter(())):
            self.bad(GROUP, thing, -1)
        for thing in (None, 5, "abab", (), ("a", "b", "ab"), ("a", "b", "ab", True, True), ("a", "b", "ab", 1),
                      ("a", "b", "ab", 0), ("a", "b", "ab", None), ("a", "b", "ab", "True"), ("c", "b", "ab", True),
                      ("a", "c", "ab", True), ("a", "b", "c", True), (5, "b", "ab", True), ("a", ["b"], "ab", True),
                      ("a", "b", None, True), ("a" * 201, "b", "ab", True), ("a", "b" * 201, "ab", True),
                      ("a", "b", "a" * 201, True), ("a", "b", True, True), right[0]):
            self.bad(GROUP, (thing,), 0)
            self.bad(GROUP, [right, thing, thing], 1)
            self.bad(GROUP, (right, list(right), right, right, right, right, right, thing), 7)
        # A condition may stand twice, and a tuple of its own may be four conditions.
        self.assertEqual(solutions(GROUP, (right, right)), solutions(GROUP, (right,)))
        self.bad(GROUP, right, 0)

    def test_not_settled(self):
        for thing in ((), 5, (5,)):
            with self.assertRaises(NotSettled) as caught:
                solutions(LOOSE, thing)
            self.assertEqual(caught.exception.text, "aaa")

    def test_long_ones(self):
        self.assertEqual(solutions(GROUP, (("a" * 200, "a" * 198, "b", True),)).listed(2), ("b" * 399,))
        self.assertEqual(solutions(GROUP, (("a" * 200, "a" * 198, "b", True),)).automaton[0], 400)

    def test_too_many_states(self):
        for conditions in ((("a" * 200, "a" * 199, "b", True),), (("a" * 200, "a" * 199, "b", False),),
                           (("a" * 200, "a" * 199, "b", False), ("", "", "", False))):
            with self.assertRaises(TooMany) as caught:
                solutions(GROUP, conditions)
            self.assertEqual(caught.exception.word, "state")

    def test_what_comes_up_on_the_way_does_not_count(self):
        lot = solutions(GROUP, (("a" * 200, "a" * 199, "b", False), ("", "", "a", True)))
        self.assertEqual(lot, single(GROUP, "a"))
        lot = solutions(GROUP, (("a" * 200, "a" * 199, "b", True), ("", "", "a", True)))
        self.assertEqual(lot.listed(1), ())
        self.assertEqual(Lot(GROUP, loop("a")) & lot, lot)


class BooksTest(unittest.TestCase):
    def test_signs_of_the_book(self):
        book = Book("xy", (("xx", ""),))
        self.assertEqual(solutions(book, (("x", "", "y", True),)).listed(2), ("xy",))
        with self.assertRaises(BadCondition):
            solutions(book, (("a", "", "", True),))


if __name__ == "__main__":
    unittest.main()
