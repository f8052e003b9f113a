"""Point [23]: undoings, units, groups, and what leads from one text to another."""

import unittest
from unittest import mock

import brute
from lotkit import (BOOKS, BRACKETS, FREE, GROUP, LOOSE, NOTHING, TWO_GROUPS, bag, ends_of, loop, rotations, some_books,
                    some_text)
from shrunkalike import least
from shrunkalike.books import Book
from shrunkalike.errors import BadText, NotSettled, TooMany
from shrunkalike.lots import Lot, single, whole
from shrunkalike.singles import divides, is_group, undoings, units

# The sign a is undone behind alone and b ahead alone, c undoes itself, and d is undone nowhere.
MIXED = Book("abcd", (("ab", ""), ("cc", "")))


def size_for(book):
    return {1: 8, 2: 6}.get(len(book.signs), 4)


class UndoingsTest(unittest.TestCase):
    def test_against_all_short_ends(self):
        chance = brute.made(1)
        found = {True: 0, False: 0}
        for book in BOOKS + some_books(7, 20):
            for text in {"", book.signs[0], book.signs, some_text(chance, book, 4), some_text(chance, book, 8)}:
                told = undoings(book, text)
                self.assertIs(type(told), tuple)
                ahead, behind = told
                for m in ends_of(book, size_for(book)):
                    self.assertIs(m in ahead, book(m + text) == "")
                    self.assertIs(m in behind, book(text + m) == "")
                found[ahead.least() is not None and behind.least() is not None] += 1
        self.assertGreater(min(found.values()), 30)

    def test_by_hand(self):
        self.assertEqual(undoings(GROUP, "aa"), (single(GROUP, "bb"), single(GROUP, "bb")))
        self.assertEqual(undoings(book=GROUP, text="ab"), (single(GROUP, ""), single(GROUP, "")))
        # The a's are undone by b's behind them alone.
        self.assertEqual(undoings(BRACKETS, "aa"), (Lot(BRACKETS, NOTHING), single(BRACKETS, "bb")))
        self.assertEqual(undoings(BRACKETS, "bb"), (single(BRACKETS, "aa"), Lot(BRACKETS, NOTHING)))
        self.assertEqual(undoings(BRACKETS, "ba"), (Lot(BRACKETS, NOTHING), Lot(BRACKETS, NOTHING)))
        self.assertEqual(undoings(FREE, ""), (single(FREE, ""), single(FREE, "")))
        self.assertEqual(undoings(FREE, "a"), (Lot(FREE, NOTHING), Lot(FREE, NOTHING)))
        self.assertEqual(undoings(TWO_GROUPS, "ab"), (single(TWO_GROUPS, "ca"), single(TWO_GROUPS, "ca")))
        book = Book("abc", (("ab", ""), ("ac", "")))
        self.assertEqual(undoings(book, "a")[1], bag(book, ["b", "c"]))
        # The ends x, then c, then y mean nothing; so there are endlessly many.
        book = Book("abcd", (("ab", ""), ("cb", "b")))
        self.assertEqual(undoings(book, "b")[0], single(book, "a") * Lot(book, loop("c")))

    def test_long_ones(self):
        self.assertEqual(undoings(GROUP, "a" * 200)[0].listed(1), ("b" * 200,))
        self.assertEqual(undoings(BRACKETS, "a" * 200)[1].automaton[0], 201)

    def test_too_many_states(self):
        # Each a is undone by two signs behind it, ahead by nothing.
        book = Book("abc", (("abc", ""),))
        self.assertEqual(undoings(book, "a" * 199)[1].automaton[0], 399)
        with self.assertRaises(TooMany) as caught:
            undoings(book, "a" * 200)
        self.assertEqual(caught.exception.word, "state")
        book = Book("abc", (("bca", ""),))
        self.assertEqual(undoings(book, "a" * 199)[0].automaton[0], 399)
        with self.assertRaises(TooMany):
            undoings(book, "a" * 200)


class UnitsTest(unittest.TestCase):
    def test_against_undoings(self):
        for book in BOOKS + some_books(8, 30) + [MIXED]:
            lot = units(book)
            for m in ends_of(book, size_for(book) - 1):
                ahead, behind = undoings(book, m)
                self.assertIs(m in lot, ahead.least() is not None and behind.least() is not None)
                if m in lot:
                    self.assertEqual(ahead, behind)
                    self.assertEqual(len(ahead.listed(2)), 1)
            self.assertEqual(lot.again(), lot)
            self.assertIs(is_group(book), lot == whole(book))

    def test_tables_that_are_groups(self):
        for size in range(2, 10):
            self.assertEqual(units(rotations(size)), whole(rotations(size)))
            self.assertIs(is_group(rotations(size)), True)

    def test_by_hand(self):
        for book in (GROUP, TWO_GROUPS, Book("a", (("aa", ""),)), Book("a", (("a", ""),)), Book("a", (("aaa", ""),)),
                     Book("ab", (("aaaa", ""), ("b", "")))):
            self.assertIs(is_group(book=book), True)
            self.assertEqual(units(book=book), whole(book))
        for book in (FREE, BRACKETS, Book("a", (("aa", "a"),)), Book("a", (("aaa", "a"),)), MIXED,
                     Book("ab", (("aa", ""),)), Book("ab", (("aba", "a"),))):
            self.assertIs(is_group(book), False)
        self.assertEqual(units(FREE), single(FREE, ""))
        self.assertEqual(units(BRACKETS), single(BRACKETS, ""))
        self.assertEqual(units(MIXED), bag(MIXED, ["", "c"]))
        book = Book("abc", (("ab", ""), ("ba", "")))
        self.assertEqual(units(book), Lot(book, loop("a")) | Lot(book, loop("b")))
        self.assertTrue(is_group(Book("ab", (("aaaa", ""), ("bbb", "")))))


class TooManyTest(unittest.TestCase):
    def test_units(self):
        # No small book is known with so many, so the bound is put lower here.
        self.assertEqual(units(TWO_GROUPS).automaton[0], 3)
        with mock.patch.object(least, "MOST_KEPT_STATES", 3):
            self.assertEqual(units(TWO_GROUPS), whole(TWO_GROUPS))
        with mock.patch.object(least, "MOST_KEPT_STATES", 2):
            with self.assertRaises(TooMany) as caught:
                units(TWO_GROUPS)
            self.assertEqual(caught.exception.word, "state")
            self.assertTrue(is_group(Book("a", (("aa", ""),))))


class DividesTest(unittest.TestCase):
    def least(self, ends, wanted):
        return ([end for end in ends if wanted(end)] + [None])[0]

    def test_against_all_short_ends(self):
        chance = brute.made(2)
        found = [0, 0, 0]
        for book in BOOKS + some_books(9, 20):
            ends = ends_of(book, size_for(book))
            few = ends_of(book, 3)
            for _ in range(6):
                one, other = some_text(chance, book, 3), some_text(chance, book, 4)
                goal = book(other)
                told = divides(book, one, other)
                self.assertIs(type(told), tuple)
                self.check(told[0], self.least(ends, lambda m: book(one + m) == goal), size_for(book))
                self.check(told[1], self.least(ends, lambda m: book(m + one) == goal), size_for(book))
                pairs = [(m, n) for m in few for n in few if book(m + one + n) == goal]
                if told[2] is None:
                    self.assertEqual(pairs, [])
                else:
                    m, n = told[2]
                    self.assertEqual((book(m), book(n), book(m + one + n)), (m, n, goal))
                    if pairs:
                        self.assertLessEqual(brute.order(m), brute.order(pairs[0][0]))
                    if len(m) <= 3:
                        self.check(n, self.least(ends, lambda k: book(m + one + k) == goal), size_for(book))
                        if pairs and m == pairs[0][0]:
                            self.assertEqual((m, n), pairs[0])
                for place in range(3):
                    found[place] += told[place] is not None
        self.assertGreater(min(found), 60)

    def check(self, told, known, longest):
        if known is None:
            self.assertTrue(told is None or len(told) > longest)
        else:
            self.assertEqual(told, known)

    def test_none_in_each_place(self):
        self.assertEqual(divides(FREE, "ab", "abb"), ("b", None, ("", "b")))
        self.assertEqual(divides(FREE, "ab", "bab"), (None, "b", ("b", "")))
        self.assertEqual(divides(FREE, "ab", "babb"), (None, None, ("b", "b")))
        self.assertEqual(divides(FREE, "ab", "ba"), (None, None, None))
        self.assertEqual(divides(FREE, "", ""), ("", "", ("", "")))
        self.assertEqual(divides(BRACKETS, "b", ""), (None, "a", ("a", "")))
        self.assertEqual(divides(BRACKETS, "a", ""), ("b", None, ("", "b")))
        self.assertEqual(divides(BRACKETS, "ba", ""), (None, None, ("a", "b")))
        self.assertEqual(divides(MIXED, "d", ""), (None, None, None))

    def test_least_ones(self):
        self.assertEqual(divides(book=GROUP, one="aab", other="abb"), ("bb", "bb", ("", "bb")))
        book = Book("abc", (("ab", "c"), ("ac", "c")))
        self.assertEqual(divides(book, "a", "c"), ("b", None, ("", "b")))
        # Many meanings do so; the least m comes first, and then the least n for it.
        book = Book("a", (("aaaa", ""),))
        self.assertEqual(divides(book, "a", "aaa"), ("aa", "aa", ("", "aa")))
        book = Book("ab", (("aa", "a"), ("bb", "b")))
        self.assertEqual(divides(book, "ab", "ab"), ("", "", ("", "")))
        self.assertEqual(divides(book, "ab", "aba"), ("a", None, ("", "a")))
        self.assertEqual(divides(Book("a", (("aa", "a"),)), "a", "a"), ("", "", ("", "")))

    def test_long_ones(self):
        self.assertEqual(divides(GROUP, "a" * 200, "b" * 200), ("b" * 400, "b" * 400, ("", "b" * 400)))
        self.assertEqual(divides(FREE, "ab", "a" * 100 + "b" * 100), (None, None, ("a" * 99, "b" * 99)))
        self.assertEqual(divides(BRACKETS, "b" * 200, "a" * 200), (None, "a" * 400, ("a" * 200, "a" * 200)))


class ErrorsTest(unittest.TestCase):
    def test_not_settled(self):
        for call in (lambda: undoings(LOOSE, 5), lambda: units(LOOSE), lambda: is_group(LOOSE),
                     lambda: divides(LOOSE, 5, 6)):
            with self.assertRaises(NotSettled) as caught:
                call()
            self.assertEqual(caught.exception.text, "aaa")

    def test_what_is_no_text(self):
        for thing in ("c", "a" * 201, None, 5, ["a"], True):
            for call in (lambda: undoings(GROUP, thing), lambda: divides(GROUP, thing, "x"),
                         lambda: divides(GROUP, "a", thing), lambda: divides(GROUP, thing, thing)):
                with self.assertRaises(BadText) as caught:
                    call()
                self.assertIs(caught.exception.thing, thing)


if __name__ == "__main__":
    unittest.main()
