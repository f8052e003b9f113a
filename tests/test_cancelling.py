"""Point [24]: books that cancel, and books that exchange."""

import unittest

import brute
from lotkit import BOOKS, BRACKETS, FREE, GROUP, LOOSE, TWO_GROUPS, ends_of, rotations, some_books
from shrunkalike.books import Book
from shrunkalike.cancelling import Cancels, Exchanges, cancels_ahead, cancels_behind, exchanges
from shrunkalike.errors import NotSettled


def first_pair(book, sign, ahead, longest):
    """The pair with the least y, and for it the least x, among the ends of at most so many signs."""
    known = {}
    for y in ends_of(book, longest):
        end = book(sign + y if ahead else y + sign)
        if end in known:
            return (known[end], y)
        known[end] = y
    return None


class CancelsTest(unittest.TestCase):
    def check(self, book, longest):
        told = (cancels_ahead(book), cancels_behind(book))
        for ahead, one in zip((True, False), told):
            self.assertIsInstance(one, Cancels)
            self.assertIs(bool(one), one.holds)
            wanted = (True, None, None)
            for sign in book.signs:
                pair = first_pair(book, sign, ahead, longest)
                if pair is not None:
                    wanted = (False, sign, pair)
                    break
            self.assertEqual((one.holds, one.sign, one.pair), wanted, book.rules)
        return told[0].holds, told[1].holds

    def test_against_all_short_ends(self):
        seen = []
        for book in BOOKS + some_books(10, 120, 4):
            seen.append(self.check(book, {1: 9, 2: 7}.get(len(book.signs), 5)))
        for told in ((True, True), (True, False), (False, True), (False, False)):
            self.assertGreater(seen.count(told), 4)

    def test_some_more_books(self):
        chance = brute.made(11)
        many = 0
        while many < 60:
            lefts = {"".join(chance.choice("ab") for _ in range(chance.randint(2, 4))) for _ in range(3)}
            book = Book("ab", tuple((left, chance.choice(["", "a", "b"])) for left in sorted(lefts)))
            if book.quarrel is None:
                self.check(book, 8)
                many += 1

    def test_on_both_sides(self):
        for book in [FREE, GROUP, TWO_GROUPS, Book("a", ()), Book("a", (("a", ""),))]:
            self.assertEqual((cancels_ahead(book=book).holds, cancels_behind(book=book).holds), (True, True))
        for size in range(2, 10):
            self.assertTrue(cancels_ahead(rotations(size)))
            self.assertTrue(cancels_behind(rotations(size)))

    def test_on_one_side(self):
        # The sign a swallows each b behind it.
        book = Book("ab", (("ab", "a"),))
        told = cancels_ahead(book)
        self.assertEqual((told.holds, told.sign, told.pair), (False, "a", ("", "b")))
        self.assertTrue(cancels_behind(book))
        self.assertTrue(cancels_ahead(Book("ab", (("ba", "a"),))))
        self.assertEqual(cancels_behind(Book("ab", (("ba", "a"),))).pair, ("", "b"))
        book = Book("abcd", (("ab", "d"), ("ac", "d")))
        told = cancels_ahead(book)
        self.assertEqual((told.holds, told.sign, told.pair), (False, "a", ("b", "c")))
        self.assertTrue(cancels_behind(book))
        book = Book("abcd", (("ba", "d"), ("ca", "d")))
        told = cancels_behind(book)
        self.assertEqual((told.holds, told.sign, told.pair), (False, "a", ("b", "c")))
        self.assertTrue(cancels_ahead(book))

    def test_on_none(self):
        told = cancels_ahead(BRACKETS)
        self.assertEqual((told.holds, told.sign, told.pair), (False, "a", ("", "ba")))
        told = cancels_behind(BRACKETS)
        self.assertEqual((told.holds, told.sign, told.pair), (False, "b", ("", "ba")))
        for call in (cancels_ahead, cancels_behind):
            self.assertEqual(call(Book("ab", (("aa", "a"), ("bb", "b")))).pair, ("", "a"))

    def test_the_first_sign_and_the_least_pair(self):
        book = Book("abc", (("bb", "b"), ("cc", "c")))
        told = cancels_ahead(book)
        self.assertEqual((told.sign, told.pair), ("b", ("", "b")))
        # Two pairs of which the one has the lesser x and the other one the lesser y.
        book = Book("abcde", (("ae", "a"), ("ab", "d"), ("ac", "d")))
        self.assertEqual(cancels_ahead(book).pair, ("b", "c"))
        book = Book("abcde", (("ab", "a"), ("ad", "e"), ("ac", "e")))
        self.assertEqual(cancels_ahead(book).pair, ("", "b"))
        book = Book("abcd", (("abcd", "a"), ("acc", "d"), ("add", "d")))
        self.assertEqual(cancels_ahead(book).pair, ("cc", "dd"))
        book = Book("abcd", (("abcd", "d"), ("acbd", "d")))
        self.assertEqual(cancels_ahead(book).pair, ("bcd", "cbd"))

    def test_signs_that_are_no_ends(self):
        for rules, ahead in (((("a", ""),), True), ((("a", ""), ("bb", "b")), False)):
            self.assertIs(cancels_ahead(Book("ab", rules)).holds, ahead)
        self.assertEqual(cancels_behind(Book("ab", (("a", ""), ("bb", "b")))).pair, ("", "b"))


class ExchangesTest(unittest.TestCase):
    def test_all_books(self):
        seen = {True: 0, False: 0}
        for book in BOOKS + some_books(12, 60):
            told = exchanges(book)
            self.assertIsInstance(told, Exchanges)
            self.assertIs(bool(told), told.holds)
            unlike = [(x, y) for x in book.signs for y in book.signs if book(x + y) != book(y + x)]
            self.assertEqual((told.holds, told.pair), (not unlike, unlike[0] if unlike else None))
            short = ends_of(book, 3)
            for x in short[:12]:
                for y in short[:12]:
                    self.assertTrue(not told or book(x + y) == book(y + x))
            seen[told.holds] += 1
        self.assertGreater(min(seen.values()), 10)

    def test_by_hand(self):
        self.assertTrue(exchanges(book=GROUP))
        self.assertTrue(exchanges(rotations(9)))
        self.assertTrue(exchanges(Book("a", ())))
        self.assertEqual(exchanges(FREE).pair, ("a", "b"))
        self.assertEqual(exchanges(BRACKETS).pair, ("a", "b"))
        # a exchanges with b and c, and b does not with c.
        book = Book("abc", (("a", ""),))
        self.assertEqual(exchanges(book).pair, ("b", "c"))
        book = Book("abc", (("ab", ""), ("ba", "")))
        self.assertEqual(exchanges(book).pair, ("a", "c"))


class ErrorsTest(unittest.TestCase):
    def test_not_settled(self):
        for call in (cancels_ahead, cancels_behind, exchanges):
            with self.assertRaises(NotSettled) as caught:
                call(LOOSE)
            self.assertEqual(caught.exception.text, "aaa")


if __name__ == "__main__":
    unittest.main()
