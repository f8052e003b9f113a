"""Points [15] and [16]: lots of meanings, put together, listed and counted."""

import unittest

import brute
from shrunkalike.automata import least_automaton
from shrunkalike.books import Book
from shrunkalike.closing import closed_edges
from shrunkalike.errors import BadAutomaton, BadNumber, BadText, NotSettled, TooMany, Unlike
from shrunkalike.lots import Lot, alike, lies_within, meaning, single, whole

BOOKS = [Book(*told) for told in brute.SETTLED]
GROUP = Book("ab", (("ab", ""), ("ba", "")))
LOOSE = Book("ab", (("aa", "b"),))
NOTHING = (1, (), ())


def chain(text):
    return (len(text) + 1, tuple((k, x, k + 1) for k, x in enumerate(text)), (len(text),))


def loop(signs):
    return (1, tuple((0, x, 0) for x in signs), (0,))


def moved(automaton, shift):
    return ([(p + shift, x, q + shift) for p, x, q in automaton[1]], [p + shift for p in automaton[2]])


def either(one, other):
    """The automaton of the texts of both."""
    mine, my_ends = moved(one, 1)
    yours, your_ends = moved(other, 1 + one[0])
    edges = [(0, "", 1), (0, "", 1 + one[0])] + mine + yours
    return (1 + one[0] + other[0], tuple(sorted(edges)), tuple(my_ends + your_ends))


def row(one, other):
    """The automaton of a text of the one and then a text of the other."""
    yours, your_ends = moved(other, one[0])
    edges = set(one[1]) | set(yours) | {(p, "", one[0]) for p in one[2]}
    return (one[0] + other[0], tuple(sorted(edges)), tuple(your_ends))


def rows(one):
    """The automaton of all rows of texts of the one."""
    mine, my_ends = moved(one, 1)
    edges = set(mine) | {(0, "", 1)} | {(p, "", 0) for p in my_ends}
    return (1 + one[0], tuple(sorted(edges)), (0,))


def ends_of(book, longest):
    return [text for text in brute.texts(book.signs, longest) if not brute.steps(book.rules, text)]


def some(seed, many, most_states=3):
    chance = brute.made(seed)
    return [(book, brute.some_automaton(chance, book.signs, most_states, 6),
             brute.some_automaton(chance, book.signs, most_states, 6)) for book in BOOKS for _ in range(many)]


class LotTest(unittest.TestCase):
    def test_the_ends_among_what_descends(self):
        for book, automaton, _ in some(1, 8):
            lot = Lot(book, automaton)
            walked = (automaton[0], closed_edges(book, automaton), automaton[2])
            self.assertEqual(lot.book, book)
            self.assertEqual(least_automaton(book.signs, lot.automaton), lot.automaton)
            found = brute.language(book.signs, lot.automaton, 4)
            self.assertEqual(found, [text for text in ends_of(book, 4) if brute.accepts(walked, text)])
            for text in brute.texts(book.signs, 4):
                self.assertIs(text in lot, book(text) in found)

    def test_all_ends_of_short_texts(self):
        for book, automaton, _ in some(2, 6):
            lot = Lot(book, automaton)
            for text in brute.language(book.signs, automaton, 5):
                self.assertTrue(brute.accepts(lot.automaton, brute.ends(book.rules, text)[0]))

    def test_finite_ones(self):
        chance = brute.made(3)
        for book in BOOKS:
            for _ in range(4):
                texts = ["".join(chance.choice(book.signs) for _ in range(chance.randint(0, 9))) for _ in range(3)]
                lot = Lot(book, either(chain(texts[0]), either(chain(texts[1]), chain(texts[2]))))
                self.assertEqual(lot.listed(200), tuple(sorted({book(text) for text in texts}, key=brute.order)))

    def test_same_meanings_are_equal_lots(self):
        self.assertEqual(Lot(GROUP, chain("aab")), Lot(GROUP, chain("a")))
        self.assertEqual(Lot(GROUP, loop("ab")), whole(GROUP))
        self.assertEqual(Lot(GROUP, [3, [[0, "a", 1], [1, "b", 2], [2, "", 0]], [0]]), single(GROUP, ""))
        self.assertEqual(Lot(GROUP, row(loop("a"), loop("b"))), whole(GROUP))
        self.assertEqual(Lot(book=GROUP, automaton=NOTHING).automaton, NOTHING)
        self.assertEqual(Lot(GROUP, (2, ((0, "a", 0), (1, "b", 1)), (1,))).automaton, NOTHING)

    def test_equal(self):
        lot = Lot(GROUP, loop("a"))
        self.assertTrue(lot == Lot(Book("ab", [["ab", ""], ["ba", ""]]), loop("a")))
        self.assertFalse(lot != Lot(GROUP, loop("a")))
        self.assertFalse(lot == Lot(GROUP, loop("b")))
        self.assertFalse(lot == Lot(Book("ab", (("ba", ""), ("ab", ""))), loop("a")))
        self.assertFalse(Lot(GROUP, NOTHING) == Lot(Book("ab", ()), NOTHING))
        for thing in (None, 5, "a", lot.automaton, (GROUP, lot.automaton), GROUP):
            self.assertFalse(lot == thing)
            self.assertTrue(lot != thing)

    def test_text_in_lot(self):
        lot = Lot(GROUP, loop("a"))
        for text, told in (("", True), ("a", True), ("b", False), ("bab", False), ("aba", True), ("abab" * 50, True),
                           ("ba" * 99 + "aa", True), ("b" * 101 + "a" * 99, False)):
            self.assertIs(text in lot, told)
        self.assertNotIn("", Lot(GROUP, NOTHING))
        for thing in ("c", "a" * 201, None, 5, ["a"], ("a",), True):
            with self.assertRaises(BadText) as caught:
                thing in lot
            self.assertIs(caught.exception.thing, thing)

    def test_errors(self):
        with self.assertRaises(NotSettled) as caught:
            Lot(LOOSE, 5)
        self.assertEqual(caught.exception.text, "aaa")
        with self.assertRaises(BadAutomaton) as caught:
            Lot(GROUP, (1, ((0, "c", 0),), ()))
        self.assertEqual(caught.exception.place, 0)
        edges = [(0, "a", 0), (0, "a", 1), (0, "b", 0)] + [(k, x, k + 1) for k in range(1, 10) for x in "ab"]
        with self.assertRaises(TooMany) as caught:
            Lot(Book("ab", ()), (11, tuple(edges), (10,)))
        self.assertEqual(caught.exception.word, "state")
        self.assertEqual(Lot(Book("ab", (("a", ""),)), (11, tuple(edges), (10,))), Lot(Book("ab", (("a", ""),)), loop("b")))


class TogetherTest(unittest.TestCase):
    def test_meaning_by_meaning(self):
        for book, first, second in some(4, 6):
            one, other = Lot(book, first), Lot(book, second)
            both, common, rest = one | other, one & other, one - other
            self.assertEqual(both, Lot(book, either(first, second)))
            for lot in (both, common, rest):
                self.assertEqual(lot.book, book)
                self.assertEqual(least_automaton(book.signs, lot.automaton), lot.automaton)
            for end in ends_of(book, 5):
                self.assertIs(end in both, end in one or end in other)
                self.assertIs(end in common, end in one and end in other)
                self.assertIs(end in rest, end in one and end not in other)
            self.assertEqual((one - other) | (one & other), one)
            self.assertEqual((one | other) - other, one - other)
            self.assertEqual(one & one, one)
            self.assertEqual(one | Lot(book, NOTHING), one)
            self.assertEqual((one - one).automaton, NOTHING)
            self.assertEqual(one & whole(book), one)

    def test_products_and_repetitions(self):
        for book, first, second in some(5, 6):
            one, other = Lot(book, first), Lot(book, second)
            self.assertEqual(one * other, Lot(book, row(first, second)))
            self.assertEqual(one.again(), Lot(book, rows(first)))
            self.assertEqual(one * single(book, ""), one)
            self.assertEqual((one * Lot(book, NOTHING)).automaton, NOTHING)
            self.assertIn("", one.again())
            self.assertEqual(one.again().again(), one.again())

    def test_products_of_finite_lots(self):
        chance = brute.made(6)
        for book in BOOKS:
            texts = ["".join(chance.choice(book.signs) for _ in range(chance.randint(0, 6))) for _ in range(4)]
            one = single(book, texts[0]) | single(book, texts[1])
            other = single(book, texts[2]) | single(book, texts[3])
            known = {book(x + y) for x in texts[:2] for y in texts[2:]}
            self.assertEqual((one * other).listed(9), tuple(sorted(known, key=brute.order)))

    def test_repetitions_against_rows(self):
        book = Book("abc", (("aa", ""), ("bb", ""), ("cc", "")))
        lot = single(book, "ab").again()
        self.assertEqual(lot.listed(4), ("", "ab", "abab", "ababab"))
        lot = (single(book, "ab") | single(book, "ba")).again()
        self.assertEqual(lot.listed(5), ("", "ab", "ba", "abab", "baba"))
        self.assertEqual((single(GROUP, "a") | single(GROUP, "b")).again(), whole(GROUP))
        self.assertEqual(Lot(GROUP, NOTHING).again(), single(GROUP, ""))

    def test_a_start_that_is_met_again(self):
        book = Book("abc", ())
        lot = Lot(book, (2, ((0, "a", 1), (1, "b", 0)), (1,)))
        self.assertEqual(lot.listed(3), ("a", "aba", "ababa"))
        self.assertEqual(lot.again().listed(7), ("", "a", "aa", "aaa", "aba", "aaaa", "aaba"))
        self.assertEqual((lot * lot).listed(4), ("aa", "aaba", "abaa", "aababa"))
        self.assertEqual((lot | single(book, "c")).listed(4), ("a", "c", "aba", "ababa"))

    def test_a_product_changes_nothing(self):
        one, other = Lot(GROUP, loop("a")), Lot(GROUP, chain("b"))
        before = (one.automaton, other.automaton)
        for made in (one | other, one & other, one - other, one * other, one.again()):
            self.assertIsInstance(made, Lot)
        self.assertEqual((one.automaton, other.automaton), before)

    def test_unlike_books(self):
        one, other = Lot(GROUP, loop("a")), Lot(Book("ab", (("ba", ""), ("ab", ""))), loop("a"))
        for call in (lambda: one | other, lambda: one & other, lambda: one - other, lambda: one * other,
                     lambda: lies_within(one, other)):
            with self.assertRaises(Unlike) as caught:
                call()
            self.assertEqual(caught.exception.word, "book")
        same = Lot(Book("ab", (("ab", ""), ("ba", ""))), loop("a"))
        self.assertEqual(one | same, one)

    def test_too_many_states(self):
        book = Book("ab", ())
        ring = lambda size: Lot(book, (size, tuple((k, "a", (k + 1) % size) for k in range(size)), (0,)))
        self.assertEqual((ring(16) & ring(25)).automaton[0], 400)
        self.assertEqual((ring(16) | ring(25)).automaton[0], 400)
        for call in (lambda: ring(20) & ring(21), lambda: ring(20) | ring(21), lambda: ring(20) - ring(21),
                     lambda: single(book, "a" * 200) * single(book, "b" * 200)):
            with self.assertRaises(TooMany) as caught:
                call()
            self.assertEqual(caught.exception.word, "state")
        self.assertEqual((single(book, "a" * 200) * single(book, "b" * 199)).automaton[0], 400)
        # Numbers of signs that are no sum of 15 and 28: the greatest one is 377.
        two = single(book, "a" * 15) | single(book, "a" * 28)
        self.assertEqual(two.again().automaton[0], 379)
        with self.assertRaises(TooMany):
            (single(book, "a" * 19) | single(book, "a" * 28)).again()

    def test_what_comes_up_on_the_way_does_not_count(self):
        # The product of both is a small lot, although the texts put together are no small set.
        one = single(GROUP, "a" * 200) * single(GROUP, "a" * 150)
        other = single(GROUP, "b" * 200) * single(GROUP, "b" * 149)
        self.assertEqual(one.automaton[0], 351)
        self.assertEqual(one * other, single(GROUP, "a"))


class SinglesTest(unittest.TestCase):
    def test_meaning(self):
        for book in BOOKS:
            for text in brute.texts(book.signs, 4):
                self.assertEqual([meaning(book, text)], brute.ends(book.rules, text))
        self.assertEqual(meaning(book=GROUP, text="ab" * 100), "")

    def test_alike(self):
        self.assertIs(alike(GROUP, "aab", "baa"), True)
        self.assertIs(alike(book=GROUP, one="a", other="b"), False)

    def test_single(self):
        for book in BOOKS:
            for text in brute.texts(book.signs, 3):
                lot = single(book, text)
                self.assertEqual(lot.listed(2), (book(text),))
                self.assertEqual(lot, Lot(book, chain(text)))
        self.assertEqual(single(book=Book("a", ()), text="a" * 200).automaton[0], 201)

    def test_whole(self):
        for book in BOOKS:
            self.assertEqual(whole(book), Lot(book, loop(book.signs)))
            known = ends_of(book, 6)[:20]
            self.assertEqual(list(whole(book).listed(len(known))), known)
        self.assertEqual(whole(book=Book("ab", (("a", ""), ("b", "")))).automaton, (1, (), (0,)))

    def test_errors(self):
        for call in (lambda: whole(LOOSE), lambda: single(LOOSE, 5), lambda: meaning(LOOSE, 5),
                     lambda: alike(LOOSE, 5, 5)):
            with self.assertRaises(NotSettled) as caught:
                call()
            self.assertEqual(caught.exception.text, "aaa")
        for thing in ("c", "a" * 201, None, 5, ["a"], True):
            for call in (lambda: single(GROUP, thing), lambda: meaning(GROUP, thing),
                         lambda: alike(GROUP, thing, "x"), lambda: alike(GROUP, "a", thing)):
                with self.assertRaises(BadText) as caught:
                    call()
                self.assertIs(caught.exception.thing, thing)


class LiesWithinTest(unittest.TestCase):
    def test_against_all_ends(self):
        seen = {True: 0, False: 0}
        for book, first, second in some(7, 10):
            one, other = Lot(book, first), Lot(book, second)
            told = lies_within(one, other)
            self.assertIs(bool(told), told.holds)
            lacking = [end for end in ends_of(book, 6) if end in one and end not in other]
            if lacking:
                self.assertEqual((told.holds, told.end), (False, lacking[0]))
            elif not told.holds:
                self.assertGreater(len(told.end), 6)
            self.assertIs(told.holds, one - other == Lot(book, NOTHING))
            self.assertEqual(told.end, (one - other).least())
            seen[told.holds] += 1
        self.assertGreater(min(seen.values()), 20)

    def test_plain_ones(self):
        self.assertTrue(lies_within(one=single(GROUP, "aab"), other=Lot(GROUP, loop("a"))))
        told = lies_within(whole(GROUP), Lot(GROUP, loop("a")))
        self.assertEqual((told.holds, told.end), (False, "b"))
        self.assertIsNone(lies_within(Lot(GROUP, NOTHING), Lot(GROUP, NOTHING)).end)


class ListedTest(unittest.TestCase):
    def test_against_all_ends(self):
        for book, automaton, _ in some(8, 8):
            lot = Lot(book, automaton)
            known = brute.language(book.signs, lot.automaton, 7 if len(book.signs) < 4 else 5)
            longest = max([len(text) for text in known], default=0)
            if known:
                self.assertEqual(lot.least(), known[0])
            for size in range(longest + 1):
                self.assertEqual(lot.counted(size), len([text for text in known if len(text) == size]))
            known = known[:200]
            self.assertEqual(lot.listed(len(known)), tuple(known))
            self.assertEqual(lot.listed(len(known) // 2), tuple(known[:len(known) // 2]))

    def test_empty(self):
        lot = Lot(GROUP, NOTHING)
        self.assertIsNone(lot.least())
        self.assertEqual(lot.listed(200), ())
        self.assertEqual((lot.counted(0), lot.counted(200)), (0, 0))

    def test_0_and_200(self):
        lot = whole(Book("ab", ()))
        self.assertEqual(lot.listed(0), ())
        self.assertEqual(lot.listed(200), tuple(brute.texts("ab", 7)[:200]))
        self.assertEqual(lot.counted(0), 1)
        self.assertEqual(lot.counted(200), 2 ** 200)
        self.assertEqual(lot.counted(size=3), 8)
        self.assertEqual(lot.listed(many=3), ("", "a", "b"))
        self.assertEqual(whole(GROUP).listed(200)[-1], "a" * 100)
        self.assertEqual(whole(GROUP).counted(200), 2)
        self.assertEqual(whole(GROUP).least(), "")

    def test_numbers_outside(self):
        lot = whole(GROUP)
        for thing in (-1, 201, None, "5", True, False, (3,), 10 ** 59, -10 ** 59):
            for call in (lot.listed, lot.counted):
                with self.assertRaises(BadNumber) as caught:
                    call(thing)
                self.assertIs(caught.exception.thing, thing)

    def test_long_ends(self):
        book = Book("ab", ())
        lot = Lot(book, (40, tuple((k, "a", (k + 1) % 40) for k in range(40)), (39,)))
        told = lot.listed(200)
        self.assertEqual([len(text) for text in told], [39 + 40 * k for k in range(200)])
        self.assertEqual((lot.counted(199), lot.counted(200)), (1, 0))
        chained = single(book, "a" * 200) * single(book, "b" * 199)
        self.assertEqual(chained.least(), "a" * 200 + "b" * 199)


if __name__ == "__main__":
    unittest.main()
