"""Points [5], [7] and [8]: books, what is left over, and quarrels."""

import unittest

import brute
from shrunkalike.books import Book
from shrunkalike.errors import BadRule, BadSigns, BadText


def all_rules(signs):
    return [(left, right) for left in brute.texts(signs, 4)[1:] for right in ("",) + tuple(signs)
            if len(right) < len(left)]


class BookTest(unittest.TestCase):
    def test_attributes(self):
        rules = (("ab", "c"), ("a", ""), ("abca", "b"), ("ab", ""))
        book = Book("abc", rules)
        self.assertEqual((book.signs, book.rules), ("abc", rules))
        self.assertEqual(len(book), 4)
        self.assertEqual([book[k] for k in range(4)], list(rules))
        self.assertEqual(list(book), list(rules))
        self.assertEqual([left for left, _ in book], ["ab", "a", "abca", "ab"])
        self.assertEqual(Book(rules=rules, signs="abc"), book)

    def test_lists(self):
        rules = [["ab", "c"], ("a", "")]
        book = Book("abc", rules)
        rules.append(("b", ""))
        rules[0][1] = "a"
        self.assertEqual(book.rules, (("ab", "c"), ("a", "")))
        self.assertEqual(repr(book.rules), repr((("ab", "c"), ("a", ""))))
        self.assertEqual(book, Book("abc", (("ab", "c"), ("a", ""))))

    def test_equal(self):
        book = Book("ab", (("ab", ""),))
        self.assertTrue(book == Book("ab", [["ab", ""]]))
        self.assertFalse(book != Book("ab", [["ab", ""]]))
        self.assertFalse(book == Book("abc", (("ab", ""),)))
        self.assertFalse(book == Book("ab", (("ab", "a"),)))
        self.assertFalse(Book("ab", (("ab", ""), ("ba", ""))) == Book("ab", (("ba", ""), ("ab", ""))))
        for thing in (None, 5, "ab", ("ab", (("ab", ""),)), (("ab", ""),)):
            self.assertFalse(book == thing)
            self.assertTrue(book != thing)

    def test_sizes(self):
        known = all_rules("abc")
        self.assertEqual(len(Book("abc", ())), 0)
        self.assertEqual(list(Book("abc", [])), [])
        self.assertEqual(len(Book("abc", known[:64])), 64)
        for thing in (known[:65], tuple(known[:65]), None, 5, "ab", {}, True):
            with self.assertRaises(BadRule) as caught:
                Book("abc", thing)
            self.assertEqual(caught.exception.place, -1)

    def test_signs_go_ahead(self):
        for signs in ("", "ba", "abcdefghi", 5, None, ["a"]):
            with self.assertRaises(BadSigns) as caught:
                Book(signs, 5)
            self.assertIs(caught.exception.thing, signs)

    def test_bad_rules(self):
        good = ("ab", "a")
        for bad in (None, 5, "ab", (), ("ab",), ("ab", "", ""), ("", ""), ("a", "a"), ("a", "b"), ("abaab", ""),
                    ("ab", "ab"), ("abb", "ab"), ("ac", ""), ("ab", "c"), ("ab", None), (5, ""), (["a", "b"], ""),
                    (("a", "b"), ""), good, list(good), ("", "a"), True, ("Ab", "")):
            for rules in ((good, bad, bad, 5), [good, bad, ("a", "")]):
                with self.assertRaises(BadRule) as caught:
                    Book("ab", rules)
                self.assertEqual(caught.exception.place, 1, bad)
        for left in ("a", "ab", "aba", "abab"):
            Book("ab", ((left, ""),))

    def test_same_left_sides(self):
        book = Book("ab", (("ab", "b"), ("ab", ""), ("ab", "a")))
        self.assertEqual(book("ab"), "b")
        self.assertEqual(book.quarrel, "ab")


class LeftOverTest(unittest.TestCase):
    def pile(self, rules, text):
        pile = ""
        for sign in text:
            pile += sign
            while any(pile.endswith(left) for left, _ in rules):
                left, right = [rule for rule in rules if pile.endswith(rule[0])][0]
                pile = pile[:len(pile) - len(left)] + right
        return pile

    def test_against_the_words(self):
        chance = brute.made(1)
        for _ in range(60):
            rules = brute.some_rules(chance, "abc", 7)
            book = Book("abc", rules)
            for text in brute.texts("abc", 5):
                over = book(text)
                self.assertEqual(over, self.pile(rules, text))
                self.assertFalse(brute.steps(rules, over))

    def test_the_first_rule_goes_ahead(self):
        self.assertEqual(Book("abc", (("b", ""), ("ab", "c")))("ab"), "a")
        self.assertEqual(Book("abc", (("ab", "c"), ("b", "")))("ab"), "c")
        self.assertEqual(Book("abc", (("aab", ""), ("ab", "c")))("aab"), "")
        self.assertEqual(Book("abc", (("ab", "c"), ("aab", "")))("aab"), "ac")
        self.assertEqual(Book("abc", (("ab", "c"), ("ab", "a")))("ab"), "c")

    def test_right_sides_shrink_on(self):
        self.assertEqual(Book("abc", (("ab", "c"), ("ac", "b"), ("bb", "")))("baab"), "")
        self.assertEqual(Book("ab", (("aa", "a"),))("a" * 200), "a")

    def test_wrong_texts(self):
        book = Book("ab", (("ab", ""),))
        self.assertEqual(book("ab" * 100), "")
        self.assertEqual(book(text="b"), "b")
        for thing in ("a" * 201, "abc", None, 5, ["a"], ("a",), True):
            with self.assertRaises(BadText) as caught:
                book(thing)
            self.assertIs(caught.exception.thing, thing)


class QuarrelTest(unittest.TestCase):
    def test_against_short_texts(self):
        chance = brute.made(2)
        seen = 0
        for _ in range(400):
            rules = brute.some_rules(chance, "ab", 4, 3)
            found = brute.least_quarrel("ab", rules, 5)
            # A least text with two ends is that of an overlap, so it has at most five signs here.
            self.assertEqual(Book("ab", rules).quarrel, found[0] if found else None, rules)
            seen += found is None
        self.assertGreater(seen, 60)
        self.assertLess(seen, 340)

    def test_longer_ones(self):
        chance = brute.made(3)
        for _ in range(60):
            rules = brute.some_rules(chance, "ab", 3, 4)
            found = brute.least_quarrel("ab", rules, 7)
            self.assertEqual(Book("ab", rules).quarrel, found[0] if found else None, rules)

    def test_known_ones(self):
        for signs, rules in brute.SETTLED:
            self.assertIsNone(Book(signs, rules).quarrel, rules)
            self.assertIsNone(brute.least_quarrel(signs, rules, 5))
        self.assertEqual(Book("ab", (("aa", "b"),)).quarrel, "aaa")
        self.assertEqual(Book("abc", (("abc", "a"), ("b", ""))).quarrel, "abc")
        self.assertEqual(Book("abcd", (("abcd", "a"), ("daaa", ""))).quarrel, "abcdaaa")


if __name__ == "__main__":
    unittest.main()
