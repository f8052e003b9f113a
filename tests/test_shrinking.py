"""Points [6] and [8]: steps, runs, all texts and all ends, and overlaps."""

import unittest

import brute
from shrunkalike.books import Book
from shrunkalike.errors import BadRun, BadText, NoStep, TooMany
from shrunkalike.shrinking import ends, overlaps, played, shrinks, step, steps

WRONG = ("a" * 201, "abd", None, 5, ["a"], ("a",), True)


class StepsTest(unittest.TestCase):
    def test_against_the_words(self):
        chance = brute.made(1)
        for _ in range(60):
            rules = brute.some_rules(chance, "abc", 7)
            book = Book("abc", rules)
            for text in brute.texts("abc", 4):
                told = steps(book, text)
                self.assertEqual(told, tuple(brute.steps(rules, text)))
                for place in range(-1, len(text) + 2):
                    for number in range(-1, len(rules) + 1):
                        if (place, number) in told:
                            aim = brute.after(rules, text, (place, number))
                            self.assertEqual(step(book, text, place, number), aim)
                        else:
                            with self.assertRaises(NoStep) as caught:
                                step(book, text, place, number)
                            error = caught.exception
                            self.assertEqual((error.place, error.number), (place, number))

    def test_same_left_sides(self):
        book = Book("abc", (("ab", "c"), ("a", ""), ("ab", "")))
        self.assertEqual(steps(book, "abab"), ((0, 0), (0, 1), (0, 2), (2, 0), (2, 1), (2, 2)))

    def test_wrong_things(self):
        book = Book("abc", (("ab", "c"), ("ab", "")))
        for thing in WRONG:
            for call in (lambda: steps(book, thing), lambda: step(book, thing, None, None),
                         lambda: played(book, thing, 5), lambda: shrinks(book, thing), lambda: ends(book, thing)):
                with self.assertRaises(BadText) as caught:
                    call()
                self.assertIs(caught.exception.thing, thing)
        for place, number in ((False, 0), (0, False), (0, True), (-4, 0), (0, -1), (0, -2), (0, 2), (4, 0), (10 ** 59, 0),
                              (0, 10 ** 59), (None, 0), (0, "0")):
            with self.assertRaises(NoStep) as caught:
                step(book, "abab", place, number)
            self.assertIs(caught.exception.place, place)
            self.assertIs(caught.exception.number, number)
        self.assertEqual(step(book=book, text="abab", place=2, number=1), "ab")

    def test_no_steps(self):
        self.assertEqual(steps(Book("ab", ()), "abab"), ())
        self.assertEqual(steps(Book("ab", (("ab", ""),)), ""), ())

    def test_long_text(self):
        book = Book("a", (("a", ""), ("aaaa", "a")))
        self.assertEqual(len(steps(book, "a" * 200)), 200 + 197)


class PlayedTest(unittest.TestCase):
    BOOK = Book("ab", (("a", ""), ("ab", "b"), ("bb", "a")))

    def test_all_texts_of_a_run(self):
        self.assertEqual(played(self.BOOK, "abb", ()), ("abb",))
        self.assertEqual(played(self.BOOK, "abb", ((0, 1), (0, 2), (0, 0))), ("abb", "bb", "a", ""))
        self.assertEqual(played(self.BOOK, "abb", [[0, 1], (0, 2)]), ("abb", "bb", "a"))
        self.assertEqual(played(book=self.BOOK, text="a", run=[]), ("a",))

    def place(self, text, run):
        with self.assertRaises(BadRun) as caught:
            played(self.BOOK, text, run)
        return caught.exception.place

    def test_lengths(self):
        self.assertEqual(len(played(self.BOOK, "a" * 200, ((0, 0),) * 200)), 201)
        self.assertEqual(self.place("a" * 200, ((0, 0),) * 400), 200)
        self.assertEqual(self.place("a" * 200, ((0, 0),) * 401), -1)
        self.assertEqual(self.place("a" * 200, [None] * 401), -1)
        self.assertEqual(self.place("a" * 200, [None] * 400), 0)

    def test_wrong_things(self):
        for thing in (None, 5, "ab", {}, True):
            self.assertEqual(self.place("aab", thing), -1)
        for bad in (None, 5, "00", (), (0,), (0, 0, 0), (0, 1), (1, 0), (0, 3), (-1, 2), (2, 2), (False, 0), (0, False),
                    (0, None), ("0", 0), (1, 2)):
            self.assertEqual(self.place("ab", ((0, 0), bad, bad)), 1, bad)

    def test_against_going_step_by_step(self):
        chance = brute.made(2)
        for _ in range(200):
            rules = brute.some_rules(chance, "ab", 6)
            text = "".join(chance.choice("ab") for _ in range(10))
            run, all_texts = [], [text]
            while brute.steps(rules, text):
                run.append(chance.choice(brute.steps(rules, text)))
                text = brute.after(rules, text, run[-1])
                all_texts.append(text)
            self.assertEqual(played(Book("ab", rules), all_texts[0], run), tuple(all_texts))


class AllTextsTest(unittest.TestCase):
    def test_against_going_step_by_step(self):
        chance = brute.made(3)
        for _ in range(80):
            rules = brute.some_rules(chance, "abc", 7)
            book = Book("abc", rules)
            for _ in range(10):
                text = "".join(chance.choice("abc") for _ in range(chance.randint(0, 7)))
                self.assertEqual(shrinks(book, text), tuple(brute.shrinks(rules, text)))
                self.assertEqual(ends(book, text), tuple(brute.ends(rules, text)))

    def test_no_rules(self):
        book = Book("ab", ())
        self.assertEqual(shrinks(book, "ab" * 100), ("ab" * 100,))
        self.assertEqual(ends(book, ""), ("",))

    def test_2000_texts(self):
        # a^m b^n has (m + 1) * (n + 1) texts.
        book = Book("ab", (("a", ""), ("b", "")))
        self.assertEqual(len(shrinks(book, "a" * 39 + "b" * 49)), 2000)
        self.assertEqual(ends(book, "a" * 39 + "b" * 49), ("",))
        for text in ("a" * 68 + "b" * 28, "a" * 22 + "b" * 86):
            # 69 * 29 and 23 * 87 are 2001.
            for call in (shrinks, ends):
                with self.assertRaises(TooMany) as caught:
                    call(book, text)
                self.assertEqual(caught.exception.word, "text")
        with self.assertRaises(TooMany):
            ends(book, "ab" * 100)

    def test_names(self):
        book = Book("ab", (("ab", ""),))
        self.assertEqual(shrinks(book=book, text="aab"), ("a", "aab"))
        self.assertEqual(ends(text="aab", book=book), ("a",))
        self.assertEqual(steps(text="aab", book=book), ((1, 0),))


class OverlapsTest(unittest.TestCase):
    def plain(self, rules, signs):
        found = []
        for text in brute.texts(signs, 7)[1:]:
            for one, (left, _) in enumerate(rules):
                if not text.startswith(left):
                    continue
                for place in range(len(left)):
                    for other, (second, _) in enumerate(rules):
                        if text[place:place + len(second)] != second or (place == 0 and one >= other):
                            continue
                        if len(text) == max(len(left), place + len(second)):
                            found.append((text, one, place, other))
        return tuple(found)

    def test_against_all_texts(self):
        chance = brute.made(4)
        for _ in range(60):
            rules = brute.some_rules(chance, "ab", 5)
            self.assertEqual(overlaps(Book("ab", rules)), self.plain(rules, "ab"))

    def test_known_ones(self):
        self.assertEqual(overlaps(Book("a", (("aaa", "a"),))), (("aaaa", 0, 1, 0), ("aaaaa", 0, 2, 0)))
        self.assertEqual(overlaps(Book("ab", (("ab", ""), ("bab", "a"), ("b", "")))),
                         (("ab", 0, 1, 2), ("bab", 1, 0, 2), ("bab", 1, 1, 0), ("bab", 1, 2, 2), ("abab", 0, 1, 1),
                          ("babab", 1, 2, 1)))
        self.assertEqual(overlaps(Book("ab", (("ab", ""), ("ab", "a")))), (("ab", 0, 0, 1),))
        self.assertEqual(overlaps(Book("ab", (("ab", ""), ("abb", "a")))), (("abb", 0, 0, 1),))
        self.assertEqual(overlaps(Book("ab", ())), ())
        self.assertEqual(overlaps(book=Book("a", (("a", ""),))), ())

    def test_shorter_texts_go_ahead(self):
        told = overlaps(Book("ab", (("bab", ""), ("ba", ""), ("bb", ""))))
        self.assertEqual([text for text, _, _, _ in told],
                         ["bab", "bba", "bbb", "baba", "babb", "bbab", "babab"])


if __name__ == "__main__":
    unittest.main()
