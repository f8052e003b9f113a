"""Points [8] and [9]: settled books, least books, same ends, and what a book says."""

import unittest

import brute
from shrunkalike.books import Book
from shrunkalike.errors import NotSettled, Unlike
from shrunkalike.settling import least_book, same_ends, says, settled
from shrunkalike.shrinking import overlaps

LOOSE = Book("ab", (("aa", "b"),))
LOOSER = Book("ab", (("ab", "a"), ("ab", "")))


def settled_books(seed, signs, most, longest, many):
    """Settled books, as they come."""
    chance = brute.made(seed)
    found = []
    while len(found) < many:
        book = Book(signs, brute.some_rules(chance, signs, most, longest))
        if book.quarrel is None:
            found.append(book)
    return found


class SettledTest(unittest.TestCase):
    def test_against_short_texts(self):
        chance = brute.made(1)
        seen = {True: 0, False: 0}
        for _ in range(300):
            rules = brute.some_rules(chance, "ab", 4, 3)
            told = settled(Book("ab", rules))
            found = brute.least_quarrel("ab", rules, 5)
            self.assertIs(told.holds, found is None)
            self.assertIs(bool(told), told.holds)
            if found is None:
                self.assertIsNone(told.text)
                self.assertIsNone(told.ends)
            else:
                self.assertIsNone(told.meets)
                self.assertEqual((told.text, told.ends), (found[0], tuple(found[1])))
            seen[told.holds] += 1
        self.assertGreater(min(seen.values()), 60)

    def test_meets(self):
        for signs, rules in brute.SETTLED:
            told = settled(Book(signs, rules))
            self.assertTrue(told)
            self.assertEqual([[end] for end in told.meets],
                             [brute.ends(rules, text) for text, _, _, _ in overlaps(Book(signs, rules))])

    def test_order_of_meets(self):
        told = settled(Book("abcd", (("cd", ""), ("dc", ""), ("ab", ""), ("ba", ""))))
        self.assertEqual(told.meets, ("a", "b", "c", "d"))
        self.assertEqual(settled(Book("ab", ())).meets, ())
        self.assertEqual(settled(book=Book("ab", (("aab", ""),))).meets, ())

    def test_least_text_with_two_ends(self):
        told = settled(Book("abc", (("bb", "c"), ("aa", "c"), ("ccc", ""))))
        self.assertEqual((told.text, told.ends), ("aaa", ("ac", "ca")))
        told = settled(Book("abc", (("aaa", "a"), ("cb", ""), ("bc", "a"))))
        self.assertEqual((told.text, told.ends), ("bcb", ("b", "ab")))
        told = settled(Book("abc", (("ab", ""), ("ab", "c"), ("ab", "a"))))
        self.assertEqual((told.text, told.ends), ("ab", ("", "a", "c")))

    def test_many_ends(self):
        rules = tuple(("ab", right) for right in "abcd") + (("abc", ""),)
        told = settled(Book("abcd", rules))
        self.assertEqual((told.text, told.ends), ("ab", tuple(brute.ends(rules, "ab"))))


class LeastBookTest(unittest.TestCase):
    def test_same_ends_and_least(self):
        for book in settled_books(2, "ab", 6, 4, 60) + [Book(*told) for told in brute.SETTLED]:
            least = least_book(book)
            lefts = [left for left, _ in book]
            kept = [x for x in lefts if not any(y in x and y != x for y in lefts)]
            self.assertEqual([left for left, _ in least], sorted(set(kept), key=brute.order))
            for text in brute.texts(book.signs, 5):
                self.assertEqual(brute.ends(least.rules, text), brute.ends(book.rules, text))
            self.assertEqual(least.signs, book.signs)
            self.assertIsNone(least.quarrel)
            self.assertEqual(least_book(least), least)
            self.assertLessEqual(len(least), len(book))

    def test_right_sides_shrink_on(self):
        book = Book("abc", (("bbb", ""), ("cab", ""), ("ca", "b"), ("a", ""), ("c", ""), ("b", "")))
        self.assertEqual(least_book(book).rules, (("a", ""), ("b", ""), ("c", "")))
        book = Book("abc", (("ba", "c"), ("c", ""), ("ab", "c")))
        self.assertEqual(least_book(book).rules, (("c", ""), ("ab", ""), ("ba", "")))
        self.assertEqual(least_book(book=Book("ab", ())), Book("ab", ()))

    def test_not_settled(self):
        for call in (least_book, lambda book: same_ends(book, LOOSER), lambda book: says(book, LOOSER)):
            with self.assertRaises(NotSettled) as caught:
                call(LOOSE)
            self.assertEqual(caught.exception.text, "aaa")


class SameEndsTest(unittest.TestCase):
    def test_against_short_texts(self):
        books = settled_books(3, "ab", 4, 3, 40)
        seen = {True: 0, False: 0}
        for one in books:
            for other in books[:20]:
                told = same_ends(one, other)
                unlike = [text for text in brute.texts("ab", 4) if one(text) != other(text)]
                self.assertIs(told.holds, not unlike)
                self.assertIs(bool(told), told.holds)
                if unlike:
                    text = unlike[0]
                    self.assertEqual((told.text, told.one_end, told.other_end), (text, one(text), other(text)))
                else:
                    self.assertEqual((told.text, told.one_end, told.other_end), (None, None, None))
                    self.assertEqual(least_book(one), least_book(other))
                seen[told.holds] += 1
        self.assertGreater(min(seen.values()), 30)

    def test_one_rule(self):
        one = Book("abc", (("ab", ""), ("ba", ""), ("cc", "")))
        other = Book("abc", (("ab", ""), ("ba", ""), ("cc", "c")))
        told = same_ends(one=one, other=other)
        self.assertEqual((told.holds, told.text, told.one_end, told.other_end), (False, "cc", "", "c"))
        told = same_ends(Book("abc", (("ab", ""), ("ba", ""))), other)
        self.assertEqual((told.text, told.one_end, told.other_end), ("cc", "cc", "c"))
        self.assertTrue(same_ends(one, Book("abc", (("aab", "a"), ("cc", ""), ("ba", ""), ("ab", "")))))

    def test_errors(self):
        fine, wide = Book("ab", ()), Book("abc", ())
        for call in (same_ends, says):
            for one, other, text in ((LOOSE, LOOSER, "aaa"), (LOOSER, LOOSE, "ab"), (wide, LOOSE, "aaa"),
                                     (LOOSE, wide, "aaa")):
                with self.assertRaises(NotSettled) as caught:
                    call(one, other)
                self.assertEqual(caught.exception.text, text)
            with self.assertRaises(Unlike) as caught:
                call(fine, wide)
            self.assertEqual(caught.exception.word, "signs")


class SaysTest(unittest.TestCase):
    def test_against_the_words(self):
        books = settled_books(4, "ab", 4, 3, 40)
        seen = {True: 0, False: 0}
        for one in books:
            for other in books[:20]:
                told = says(one, other)
                unlike = [k for k, (left, right) in enumerate(other.rules)
                          if brute.ends(one.rules, left) != brute.ends(one.rules, right)]
                self.assertIs(told.holds, not unlike)
                self.assertIs(bool(told), told.holds)
                self.assertEqual(told.number, unlike[0] if unlike else None)
                if told:
                    for text in brute.texts("ab", 4):
                        self.assertEqual(one(other(text)), one(text))
                seen[told.holds] += 1
        self.assertGreater(min(seen.values()), 60)

    def test_both_ways(self):
        one = Book("ab", (("ab", ""), ("ba", "")))
        other = Book("ab", (("ab", ""),))
        self.assertTrue(says(one, other))
        told = says(one=other, other=one)
        self.assertEqual((told.holds, told.number), (False, 1))
        self.assertTrue(says(other, Book("ab", ())))
        self.assertEqual(says(Book("ab", ()), one).number, 0)


if __name__ == "__main__":
    unittest.main()
