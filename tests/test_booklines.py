"""Point [35]: books as lines."""

import unittest

import brute
from lotkit import BOOKS, GROUP, LOOSE, some_books
from shrunkalike.booklines import read_book, write_book
from shrunkalike.books import Book
from shrunkalike.errors import BadLine, BadSigns

MANY = tuple(x + y + z for x in "abcd" for y in "abcd" for z in "abcd")


class WriteTest(unittest.TestCase):
    def test_by_hand(self):
        self.assertEqual(write_book(book=Book("abx", (("ab", ""), ("xxx", "b"), ("a", "")))), ("abx", "ab>", "xxx>b", "a>"))
        self.assertEqual(write_book(Book("z", ())), ("z",))
        self.assertIs(type(write_book(GROUP)), tuple)
        # A book need not be settled.
        self.assertEqual(write_book(LOOSE), ("ab", "aa>b"))


class ReadTest(unittest.TestCase):
    def test_there_and_back(self):
        chance = brute.made(1)
        books = BOOKS + some_books(2, 20) + [Book("abcd", tuple((left, "") for left in MANY)), LOOSE]
        books += [Book("ab", brute.some_rules(chance, "ab", 12)) for _ in range(40)]
        for book in books:
            lines = write_book(book)
            self.assertEqual(read_book(lines=lines), book)
            self.assertEqual(read_book(list(lines)), book)
            self.assertEqual(write_book(read_book(lines)), lines)

    def test_what_is_kept_is_a_book(self):
        lines = ["ab", "ab>"]
        book = read_book(lines)
        lines.append("ba>")
        self.assertIsInstance(book, Book)
        self.assertEqual(book.rules, (("ab", ""),))

    def assert_bad(self, lines, place):
        with self.assertRaises(BadLine) as caught:
            read_book(lines)
        self.assertEqual(caught.exception.place, place)
        cause = caught.exception.__cause__
        if place == 0:
            self.assertIs(type(cause), BadSigns)
            self.assertEqual(cause.thing, lines[0])
        else:
            self.assertIsNone(cause)
            self.assertIsNone(caught.exception.__context__)

    def test_the_whole(self):
        for thing in (None, True, 5, "ab", b"ab", (), [], {"ab": 1}, ("ab", 5), ("ab", None), ("ab", True), ("ab", ("ab>",)),
                      ("ab", ["ab", ""]), (5,), ("ba", 5), ("ab", "x", None), ("ab", b"ab>")):
            self.assert_bad(thing, -1)
        lines = ("abcd",) + tuple(left + ">" for left in MANY)
        self.assertEqual(len(lines), 65)
        self.assertEqual(len(read_book(lines)), 64)
        self.assert_bad(lines + ("a>",), -1)
        self.assert_bad(lines + ("?",), -1)
        self.assert_bad(("?",) + lines, -1)

    def test_the_line_of_the_signs(self):
        for line in ("", "ba", "aa", "A", "a b", "abcdefghi", "ab>", "a>b", "1"):
            self.assert_bad((line,), 0)
            self.assert_bad((line, "ab>", "x"), 0)
            self.assert_bad([line, ""], 0)

    def test_wrong_lines(self):
        for line in ("", "ab", ">", ">a", "ab>c", "c>", "a>b", "ab>ab", "aaaaa>", "a >", "ab> ", "ab>>", "a>b>", "ab=",
                     "ab<", "A>", "ab>a>", ">ab", "ab>\n", " ab>", "a>a", "ab", "ab>aa"):
            self.assert_bad(("ab", line), 1)
            self.assert_bad(["ab", "ab>", line, "x"], 2)
            self.assert_bad(("ab", "ba>a", "ab>b", line), 3)
        for line in ("ab>", "ab>a", "aaaa>b", "a>", "bbb>"):
            self.assertEqual(read_book(("ab", line)).rules, (tuple(line.split(">")),))

    def test_a_line_that_stands_before(self):
        self.assert_bad(("ab", "ab>", "ab>"), 2)
        self.assert_bad(("ab", "ab>", "ab>a", "ba>", "ab>a", "ab>"), 4)
        self.assertEqual(read_book(("ab", "ab>", "ab>a", "ab>b")).rules, (("ab", ""), ("ab", "a"), ("ab", "b")))


if __name__ == "__main__":
    unittest.main()
