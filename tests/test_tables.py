"""Point [26]: tables of the meanings of books."""

import unittest

import brute
from lotkit import BOOKS, BRACKETS, FREE, GROUP, LOOSE, ends_of, rotations, some_books
from shrunkalike.books import Book
from shrunkalike.errors import NotSettled, TooMany
from shrunkalike.tables import Table, table


def rising(signs, barred):
    """The book whose ends are z and the rising rows of the signs in which no barred pair stands; all else is z."""
    pairs = [x + y for x in signs for y in signs if x >= y] + barred + [x + "z" for x in signs] + ["zz"]
    return Book(signs + "z", tuple((pair, "z") for pair in pairs + ["z" + x for x in signs]))


class TableTest(unittest.TestCase):
    def check(self, book, longest):
        """The table of a book whose ends all have at most so many signs."""
        told = table(book)
        self.assertIsInstance(told, Table)
        self.assertEqual((told.holds, told.ring), (True, None))
        self.assertIs(bool(told), True)
        self.assertEqual(told.ends, tuple(ends_of(book, longest)))
        self.assertIs(type(told.rows), tuple)
        self.assertEqual(len(told.rows), len(told.ends))
        for one, row in zip(told.ends, told.rows):
            self.assertIs(type(row), tuple)
            self.assertEqual([told.ends[k] for k in row], [book(one + other) for other in told.ends])
        return told

    def check_ring(self, book):
        told = table(book)
        self.assertEqual((told.holds, told.ends, told.rows), (False, None, None))
        self.assertIs(bool(told), False)
        x, y, z = told.ring
        self.assertNotEqual(y, "")
        for many in (0, 1, 2, 5, 20):
            self.assertEqual(brute.steps(book.rules, x + y * many + z), [])
        return told.ring

    def test_as_they_come(self):
        seen = {True: 0, False: 0}
        for book in BOOKS + some_books(15, 60, 8):
            told = table(book)
            seen[told.holds] += 1
            if told:
                self.check(book, 4)
            else:
                self.check_ring(book)
        self.assertGreater(min(seen.values()), 10)

    def test_one_meaning(self):
        told = self.check(Book("abc", (("a", ""), ("b", ""), ("c", ""))), 4)
        self.assertEqual((told.ends, told.rows), (("",), ((0,),)))

    def test_by_hand(self):
        told = table(book=Book("a", (("aa", ""),)))
        self.assertEqual((told.ends, told.rows), (("", "a"), ((0, 1), (1, 0))))
        told = table(Book("a", (("aaa", "a"),)))
        self.assertEqual((told.ends, told.rows), (("", "a", "aa"), ((0, 1, 2), (1, 2, 1), (2, 1, 2))))
        told = table(Book("ab", (("aa", "a"), ("ab", "a"), ("ba", "b"), ("bb", "b"))))
        self.assertEqual((told.ends, told.rows), (("", "a", "b"), ((0, 1, 2), (1, 1, 1), (2, 2, 2))))

    def test_groups(self):
        for size in range(2, 10):
            told = self.check(rotations(size), 2)
            self.assertEqual(told.rows, tuple(tuple((i + j) % size for j in range(size)) for i in range(size)))

    def test_signs_that_are_no_ends(self):
        told = self.check(Book("abc", (("a", ""), ("bb", "b"), ("c", ""))), 3)
        self.assertEqual((told.ends, told.rows), (("", "b"), ((0, 1), (1, 1))))
        self.assertEqual(set("".join(self.check_ring(Book("ab", (("a", ""),))))), {"b"})

    def test_60_and_more(self):
        for signs, barred, many in (("abcdef", ["af", "ae", "bf"], 60), ("abcdef", ["af", "ae", "bf", "ad"], 56),
                                    ("abcde", [], 33)):
            self.assertEqual(len(self.check(rising(signs, barred), 6).ends), many)
        for signs, barred in (("abcdef", ["ae", "bf"]), ("abcdef", []), ("abcdefg", [])):
            with self.assertRaises(TooMany) as caught:
                table(rising(signs, barred))
            self.assertEqual(caught.exception.word, "meaning")

    def test_endless(self):
        for book in (FREE, GROUP, BRACKETS, Book("a", ()), Book("ab", (("aa", ""), ("bb", "")))):
            self.check_ring(book)
        self.assertEqual(len(self.check_ring(Book("ab", (("aa", ""), ("bb", ""))))[1]) % 2, 0)

    def test_not_settled(self):
        with self.assertRaises(NotSettled) as caught:
            table(LOOSE)
        self.assertEqual(caught.exception.text, "aaa")


if __name__ == "__main__":
    unittest.main()
