"""Point [18]: what must stand behind, ahead of and between."""

import unittest

import brute
from lotkit import (BOOKS, BRACKETS, FREE, GROUP, NOTHING, TWO_GROUPS, bag, ends_of, loop, some_bag, some_books,
                    some_lot)
from shrunkalike.automata import least_automaton
from shrunkalike.books import Book
from shrunkalike.errors import TooMany, Unlike
from shrunkalike.lots import Lot, lies_within, single, whole
from shrunkalike.quotients import between, every_ahead, every_behind, some_ahead, some_behind

ALL = (some_behind, every_behind, some_ahead, every_ahead)


def size_for(book):
    return {1: 8, 2: 5}.get(len(book.signs), 4 if len(book.signs) == 3 else 3)


def completed(book, goal, x, m):
    return brute.accepts(goal.automaton, book(x + m))


class FiniteTest(unittest.TestCase):
    """Against all short ends, for lots whose meanings can be listed."""

    def told(self, seed, many):
        chance = brute.made(seed)
        for book in BOOKS + some_books(seed, 12):
            for kind in range(many):
                goal = some_lot(chance, book) if kind else some_bag(chance, book, 5, 5)
                yield book, some_bag(chance, book, 4, 5), some_bag(chance, book, 4, 5), goal

    def test_behind(self):
        for book, first, _, goal in self.told(1, 4):
            some, every = some_behind(first, goal), every_behind(first, goal)
            for m in ends_of(book, size_for(book)):
                found = [completed(book, goal, x, m) for x in first.listed(200)]
                self.assertIs(m in some, any(found))
                self.assertIs(m in every, all(found))

    def test_ahead(self):
        for book, last, _, goal in self.told(2, 4):
            some, every = some_ahead(last, goal), every_ahead(last, goal)
            for m in ends_of(book, size_for(book)):
                found = [completed(book, goal, m, x) for x in last.listed(200)]
                self.assertIs(m in some, any(found))
                self.assertIs(m in every, all(found))

    def test_between(self):
        for book, first, last, goal in self.told(3, 3):
            fitting = between(first, last, goal)
            for m in ends_of(book, size_for(book)):
                found = [completed(book, goal, x + m, z) for x in first.listed(200) for z in last.listed(200)]
                self.assertIs(m in fitting, any(found))

    def test_lots_have_their_own_automata(self):
        for book, first, last, goal in self.told(4, 2):
            for lot in [call(first, goal) for call in ALL] + [between(first, last, goal)]:
                self.assertIs(type(lot), Lot)
                self.assertEqual(lot.book, book)
                self.assertTrue(lies_within(lot, whole(book)))
                if lot.automaton[0] <= 40 and len(lot.automaton[1]) <= 400:
                    self.assertEqual(least_automaton(book.signs, lot.automaton), lot.automaton)
                    self.assertEqual(Lot(book, lot.automaton), lot)


class EndlessTest(unittest.TestCase):
    def told(self, seed, many):
        chance = brute.made(seed)
        for book in BOOKS + some_books(seed, 12):
            for _ in range(many):
                yield book, some_lot(chance, book), some_lot(chance, book), some_lot(chance, book)

    def test_some_behind_and_ahead_name_each_other(self):
        # m completes some x to the goal exactly if some x of the lot is among those that prepare m.
        for book, first, _, goal in self.told(5, 3):
            behind, ahead = some_behind(first, goal), some_ahead(first, goal)
            for m in ends_of(book, size_for(book) - 1):
                alone = single(book, m)
                self.assertIs(m in behind, (some_ahead(alone, goal) & first).least() is not None)
                self.assertIs(m in ahead, (some_behind(alone, goal) & first).least() is not None)

    def test_every_against_products(self):
        for book, first, lot, goal in self.told(6, 3):
            self.assertIs(lies_within(first * lot, goal).holds, lies_within(lot, every_behind(first, goal)).holds)
            self.assertIs(lies_within(lot * first, goal).holds, lies_within(lot, every_ahead(first, goal)).holds)
            self.assertTrue(lies_within(first * every_behind(first, goal), goal))
            self.assertTrue(lies_within(every_ahead(first, goal) * first, goal))

    def test_every_and_some(self):
        for book, first, _, goal in self.told(7, 2):
            rest = whole(book) - goal
            self.assertEqual(every_behind(first, goal), whole(book) - some_behind(first, rest))
            self.assertEqual(every_ahead(first, goal), whole(book) - some_ahead(first, rest))

    def test_between_in_two_steps(self):
        for book, first, last, goal in self.told(8, 2):
            self.assertEqual(between(first, last, goal), some_behind(first, some_ahead(last, goal)))
            self.assertEqual(between(first, last, goal), some_ahead(last, some_behind(first, goal)))
            self.assertEqual(between(single(book, ""), last, goal), some_ahead(last, goal))

    def test_short_ends_are_found(self):
        for book, first, last, goal in self.told(9, 2):
            behind, ahead, fitting = some_behind(first, goal), some_ahead(last, goal), between(first, last, goal)
            every, each = every_behind(first, goal), every_ahead(last, goal)
            for m in ends_of(book, size_for(book) - 1):
                mine = [completed(book, goal, x, m) for x in first.listed(12)]
                yours = [completed(book, goal, m, x) for x in last.listed(12)]
                self.assertTrue(m in behind or not any(mine))
                self.assertTrue(m in ahead or not any(yours))
                self.assertTrue(m not in every or all(mine))
                self.assertTrue(m not in each or all(yours))
                for x in first.listed(4):
                    for z in last.listed(4):
                        self.assertTrue(m in fitting or not completed(book, goal, x + m, z))


class PlainTest(unittest.TestCase):
    def test_empty_first_and_last(self):
        for book in BOOKS:
            nothing = Lot(book, NOTHING)
            for goal in (nothing, single(book, ""), whole(book)):
                self.assertEqual(some_behind(nothing, goal), nothing)
                self.assertEqual(some_ahead(nothing, goal), nothing)
                self.assertEqual(every_behind(nothing, goal), whole(book))
                self.assertEqual(every_ahead(nothing, goal), whole(book))
                self.assertEqual(between(nothing, whole(book), goal), nothing)
                self.assertEqual(between(whole(book), nothing, goal), nothing)

    def test_empty_goal_and_the_whole(self):
        for book in BOOKS:
            nothing = Lot(book, NOTHING)
            for lot in (single(book, book.signs), whole(book)):
                for call in ALL:
                    self.assertEqual(call(lot, nothing), nothing)
                    self.assertEqual(call(lot, whole(book)), whole(book))
                self.assertEqual(between(lot, lot, nothing), nothing)
                self.assertEqual(between(lot, lot, whole(book)), whole(book))

    def test_by_hand(self):
        powers = Lot(GROUP, loop("a"))
        self.assertEqual(some_behind(single(GROUP, "aa"), single(GROUP, "a")).listed(2), ("b",))
        self.assertEqual(some_ahead(last=single(GROUP, "aa"), goal=powers), powers | bag(GROUP, ["b", "bb"]))
        self.assertEqual(some_behind(first=powers, goal=single(GROUP, "")), Lot(GROUP, loop("b")))
        self.assertEqual(every_behind(first=powers, goal=powers), powers)
        self.assertEqual(every_ahead(last=powers, goal=single(GROUP, "")), Lot(GROUP, NOTHING))
        self.assertEqual(some_behind(single(BRACKETS, "aaa"), single(BRACKETS, "a")).listed(9), ("bb", "bbba"))
        self.assertEqual(some_ahead(single(BRACKETS, "b"), single(BRACKETS, "")).listed(9), ("a",))
        self.assertEqual(some_behind(single(BRACKETS, "b"), single(BRACKETS, "")).listed(9), ())
        self.assertEqual(between(first=single(GROUP, "a"), last=single(GROUP, "bbb"), goal=powers).listed(4),
                         ("a", "aa", "aaa", "aaaa")[1:] + ("aaaaa",))
        self.assertEqual(between(single(TWO_GROUPS, "ab"), single(TWO_GROUPS, "ca"), single(TWO_GROUPS, "")).listed(9),
                         ("",))

    def test_endless_ones_on_both_sides(self):
        opened, closed = Lot(BRACKETS, loop("a")), Lot(BRACKETS, loop("b"))
        self.assertEqual(some_behind(opened, single(BRACKETS, "")), closed)
        self.assertEqual(some_ahead(closed, single(BRACKETS, "")), opened)
        self.assertEqual(between(opened, closed, single(BRACKETS, "")), whole(BRACKETS))
        self.assertEqual(every_behind(opened, opened), opened)
        self.assertEqual(every_behind(closed, closed), closed)
        self.assertEqual(every_ahead(opened, closed), Lot(BRACKETS, NOTHING))

    def test_signs_that_are_no_ends(self):
        book = Book("abc", (("a", ""), ("bc", "")))
        self.assertEqual(some_behind(single(book, "ab"), single(book, "")).listed(3), ("c",))
        self.assertNotIn("a", some_behind(single(book, "bc"), whole(book)).listed(9))

    def test_a_middle_that_vanishes_and_goes_on(self):
        # What has become of the middle is used up together with signs of both sides.
        book = Book("abcde", (("bc", "d"), ("ade", "b")))
        self.assertEqual(brute.ends(book.rules, "aab" + "cece"), ["b"])
        self.assertIn("cece", some_behind(single(book, "aab"), single(book, "b")))
        self.assertIn("aab", some_ahead(single(book, "cece"), single(book, "b")))
        for goal in ("", "b", "d", "ad", "dc"):
            for x in ("", "a", "aab", "aaab", "cece", "ec", "bce", "ce"):
                behind = some_behind(single(book, x), single(book, goal))
                ahead = some_ahead(single(book, x), single(book, goal))
                for m in ends_of(book, 4):
                    self.assertIs(m in behind, book(x + m) == book(goal))
                    self.assertIs(m in ahead, book(m + x) == book(goal))

    def test_nothing_is_changed(self):
        first, goal = Lot(GROUP, loop("a")), single(GROUP, "b")
        before = (first.automaton, goal.automaton)
        for call in ALL:
            call(first, goal)
        between(first, first, goal)
        self.assertEqual((first.automaton, goal.automaton), before)


class ErrorsTest(unittest.TestCase):
    def test_unlike_books(self):
        other = Book("ab", (("ba", ""), ("ab", "")))
        one, two = single(GROUP, "a"), single(other, "a")
        for call in [lambda call=call: call(one, two) for call in ALL] + [lambda call=call: call(two, one)
                                                                        for call in ALL]:
            self.unlike(call)
        for lots in ((one, one, two), (one, two, one), (two, one, one), (one, two, two)):
            self.unlike(lambda: between(*lots))
        same = Book("ab", [["ab", ""], ["ba", ""]])
        self.assertEqual(some_behind(one, single(same, "a")).listed(2), ("",))
        self.assertEqual(between(one, single(same, "a"), one).listed(2), ("b",))

    def unlike(self, call):
        with self.assertRaises(Unlike) as caught:
            call()
        self.assertEqual(caught.exception.word, "book")

    def test_unlike_books_go_ahead(self):
        long = single(GROUP, "a" * 200) * single(GROUP, "a" * 199)
        self.unlike(lambda: some_behind(long * single(GROUP, "b"), single(FREE, "a")))

    def test_too_many_states(self):
        long = single(GROUP, "a" * 200) * single(GROUP, "a" * 199)
        self.assertEqual(long.automaton[0], 400)
        self.assertEqual(some_behind(single(GROUP, ""), long), long)
        for call in (lambda: some_behind(single(GROUP, "b"), long), lambda: some_ahead(single(GROUP, "b"), long),
                     lambda: between(single(GROUP, ""), single(GROUP, "b"), long),
                     lambda: every_behind(single(GROUP, "b"), long), lambda: every_ahead(single(GROUP, "b"), long)):
            with self.assertRaises(TooMany) as caught:
                call()
            self.assertEqual(caught.exception.word, "state")
        self.assertEqual(some_behind(single(GROUP, "a"), long).automaton[0], 399)

    def test_what_comes_up_on_the_way_does_not_count(self):
        long = single(GROUP, "a" * 200) * single(GROUP, "a" * 199)
        # What prepares the last for the goal has 401 states, and what fits between has 400.
        self.assertEqual(between(single(GROUP, "a"), single(GROUP, "b"), long), long)
        self.assertEqual(every_ahead(single(GROUP, "a" * 200), long).automaton[0], 200)


if __name__ == "__main__":
    unittest.main()
