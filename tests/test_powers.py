"""Point [25]: the powers of a text."""

import unittest
from unittest import mock

import brute
from lotkit import BOOKS, BRACKETS, FREE, GROUP, LOOSE, TWO_GROUPS, rotations, some_books, some_text
from shrunkalike import powers as module
from shrunkalike.books import Book
from shrunkalike.errors import BadText, NotSettled, TooMany
from shrunkalike.powers import power, powers

# The powers of a are a, aa, aaa, and then b, which stays.
LATE = Book("ab", (("aaaa", "b"), ("ab", "b"), ("ba", "b"), ("bb", "b")))


def played(book, text, many):
    """The powers below so many; the text is short."""
    found = [""]
    while len(found) < many:
        found.append(brute.ends(book.rules, found[-1] + text)[0])
    return found


class PowersTest(unittest.TestCase):
    def check(self, book, text, many=30):
        told = powers(book, text)
        known = [""]
        while len(known) < many:
            known.append(book(known[-1] + book(text)))
        if told is None:
            self.assertEqual(len(set(known)), many)
        else:
            self.assertIs(type(told), tuple)
            index, period = told
            self.assertGreaterEqual(period, 1)
            self.assertEqual(known[index], known[index + period])
            self.assertEqual(len(set(known[:index + period])), index + period)
        return told

    def test_as_they_come(self):
        chance = brute.made(1)
        seen = []
        for book in BOOKS + some_books(13, 40) + [LATE, Book("a", (("aaaa", "a"),))]:
            for text in ["", *book.signs, some_text(chance, book, 3), some_text(chance, book, 5)]:
                if len(book(text)) <= 6:
                    seen.append(self.check(book, text))
        self.assertGreater(seen.count(None), 60)
        for told in ((0, 1), (0, 2), (0, 3), (1, 1), (1, 2), (1, 3), (4, 1)):
            self.assertIn(told, seen)

    def test_against_all_steps(self):
        chance = brute.made(2)
        for book in BOOKS:
            for _ in range(3):
                text = some_text(chance, book, 2)
                known = played(book, text, 5)
                told = powers(book, text)
                if told is None or sum(told) >= 5:
                    self.assertEqual(len(set(known)), 5)
                else:
                    self.assertEqual(known.index(known[sum(told)]), told[0])
                    self.assertEqual(len(set(known)), sum(told))

    def test_by_hand(self):
        for size in range(2, 10):
            self.assertEqual(powers(rotations(size), "a"), (0, size))
        self.assertEqual(powers(rotations(9), "c"), (0, 3))
        self.assertEqual(powers(rotations(9), ""), (0, 1))
        self.assertEqual(powers(GROUP, "ab"), (0, 1))
        self.assertIsNone(powers(GROUP, "aab"))
        self.assertEqual(powers(book=Book("a", (("aa", "a"),)), text="a"), (1, 1))
        self.assertEqual(powers(Book("a", (("aaa", "a"),)), "a"), (1, 2))
        self.assertEqual(powers(Book("a", (("aaaa", "a"),)), "aa"), (1, 3))
        self.assertEqual(powers(LATE, "a"), (4, 1))
        self.assertEqual(powers(LATE, "aa"), (2, 1))
        self.assertEqual(powers(LATE, "b"), (1, 1))
        self.assertEqual(powers(BRACKETS, "ba"), (1, 1))
        self.assertEqual(powers(BRACKETS, "bbaa"), (1, 1))
        self.assertIsNone(powers(BRACKETS, "baa"))
        self.assertIsNone(powers(BRACKETS, "bba"))
        self.assertEqual(powers(TWO_GROUPS, "aba"), (0, 3))
        self.assertIsNone(powers(TWO_GROUPS, "ab"))
        self.assertIsNone(powers(FREE, "a"))

    def test_conjugates(self):
        # A text, what it puts around, and what undoes the text again.
        book = Book("abcd", (("ab", ""), ("ba", ""), ("cc", "d"), ("dd", "c"), ("cd", ""), ("dc", "")))
        self.assertEqual(powers(book, "a" * 99 + "c" + "b" * 99), (0, 3))
        self.assertIsNone(powers(book, "a" * 99 + "c" + "b" * 98))
        self.assertEqual(power(book, "a" * 99 + "c" + "b" * 99, "a" * 99 + "d" + "b" * 99), 2)
        self.assertIsNone(power(book, "a" * 99 + "c" + "b" * 99, "a" * 98 + "d" + "b" * 98))

    def test_long_texts(self):
        self.assertIsNone(powers(FREE, "ab" * 100))
        self.assertEqual(powers(BRACKETS, "b" * 100 + "a" * 100), (1, 1))
        self.assertIsNone(powers(BRACKETS, "b" * 99 + "a" * 101))
        self.assertIsNone(powers(BRACKETS, "b" * 101 + "a" * 99))

    def test_200_different_powers_and_more(self):
        # No small book is known with so many, so the bound is put lower here.
        book = rotations(9)
        for most, told in ((9, (0, 9)), (10, (0, 9)), (200, (0, 9)), (8, None), (3, None)):
            with mock.patch.object(module, "MOST_POWERS", most):
                if told is not None:
                    self.assertEqual(powers(book, "a"), told)
                else:
                    with self.assertRaises(TooMany) as caught:
                        powers(book, "a")
                    self.assertEqual(caught.exception.word, "power")
                self.assertIsNone(powers(GROUP, "a"))
                self.assertIsNone(powers(BRACKETS, "baa"))
                self.assertEqual(powers(book, "c"), (0, 3))
        for most, told in ((5, (4, 1)), (4, None)):
            with mock.patch.object(module, "MOST_POWERS", most):
                if told is not None:
                    self.assertEqual(powers(LATE, "a"), told)
                else:
                    with self.assertRaises(TooMany):
                        powers(LATE, "a")
        self.assertEqual(module.MOST_POWERS, 200)


class PowerTest(unittest.TestCase):
    def test_as_they_come(self):
        chance = brute.made(3)
        found = 0
        for book in BOOKS + some_books(14, 20):
            for _ in range(6):
                text, goal = some_text(chance, book, 3), some_text(chance, book, 6)
                if chance.random() < 0.5:
                    goal = text * chance.randint(0, 4)
                known, told = [""], power(book, text, goal)
                while len(known) < 24:
                    known.append(book(known[-1] + text))
                if book(goal) in known:
                    self.assertEqual(told, known.index(book(goal)))
                    self.assertIs(type(told), int)
                    found += 1
                else:
                    self.assertIsNone(told)
        self.assertGreater(found, 120)

    def test_by_hand(self):
        self.assertEqual(power(book=FREE, text="a", goal=""), 0)
        self.assertEqual(power(FREE, "", ""), 0)
        self.assertEqual(power(GROUP, "a", "ab"), 0)
        self.assertEqual(power(GROUP, "aab", "aaa"), 3)
        self.assertIsNone(power(GROUP, "a", "b"))
        self.assertIsNone(power(FREE, "", "a"))
        self.assertEqual(power(FREE, "a", "a" * 200), 200)
        self.assertIsNone(power(FREE, "aa", "a" * 199))
        self.assertEqual(power(FREE, "aa", "a" * 200), 100)
        for k in range(9):
            self.assertEqual(power(rotations(9), "b", ["", *"abcdefgh"][2 * k % 9]), k)
        self.assertIsNone(power(rotations(9), "c", "a"))
        self.assertEqual([power(LATE, "a", goal) for goal in ("", "a", "aa", "aaa", "b", "aaaa", "abab")],
                         [0, 1, 2, 3, 4, 4, 4])
        # Each one but the first puts one a more behind the b.
        self.assertEqual(power(BRACKETS, "baa", "b" + "a" * 199), 198)

    def test_above_the_highest(self):
        # No small book is known in which it takes more than 400, so the bound is put lower here.
        for highest, told in ((200, 200), (199, None), (0, None), (400, 200)):
            with mock.patch.object(module, "HIGHEST_POWER", highest):
                if told is not None:
                    self.assertEqual(power(GROUP, "a", "a" * 200), told)
                else:
                    with self.assertRaises(TooMany) as caught:
                        power(GROUP, "a", "a" * 200)
                    self.assertEqual(caught.exception.word, "power")
                self.assertIsNone(power(GROUP, "a", "b"))
                self.assertIsNone(power(GROUP, "aa", "a" * 199))
                self.assertEqual(power(GROUP, "a", ""), 0)
        for highest in (0, 3, 7):
            with mock.patch.object(module, "HIGHEST_POWER", highest):
                with self.assertRaises(TooMany):
                    power(rotations(9), "a", "h")
                self.assertIsNone(power(rotations(9), "c", "a"))
        with mock.patch.object(module, "HIGHEST_POWER", 8):
            self.assertEqual(power(rotations(9), "a", "h"), 8)
        self.assertEqual(module.HIGHEST_POWER, 400)


class ErrorsTest(unittest.TestCase):
    def test_not_settled(self):
        for call in (lambda: powers(LOOSE, 5), lambda: power(LOOSE, 5, 5)):
            with self.assertRaises(NotSettled) as caught:
                call()
            self.assertEqual(caught.exception.text, "aaa")

    def test_what_is_no_text(self):
        for thing in ("c", "a" * 201, None, 5, ["a"], True):
            for call in (lambda: powers(GROUP, thing), lambda: power(GROUP, thing, "x"),
                         lambda: power(GROUP, "a", thing)):
                with self.assertRaises(BadText) as caught:
                    call()
                self.assertIs(caught.exception.thing, thing)


if __name__ == "__main__":
    unittest.main()
