"""Point [30]: orders, carrying, roots, and what exchanges with a text."""

import unittest
from unittest import mock

import brute
import groupkit
from groupkit import C, S3, V4
from lotkit import GROUP, bag, ends_of, some_text
from shrunkalike import least
from shrunkalike.books import Book, over
from shrunkalike.carrying import carried, exchanging, order, root
from shrunkalike.errors import HasOrder, TooMany
from shrunkalike.groupoids import undone
from shrunkalike.lots import Lot, single, whole
from shrunkalike.powers import powers

# Two free signs, with what undoes them; and one free sign beside loops of two and three.
FREE_TWO = Book("abcd", (("ab", ""), ("ba", ""), ("cd", ""), ("dc", "")))
MIXED = Book("abcde", (("ab", ""), ("ba", ""), ("cc", ""), ("de", ""), ("ed", ""), ("dd", "e"), ("ee", "d")))


def size_for(book):
    return {1: 7, 2: 6, 3: 5, 4: 4}.get(len(book.signs), 3)


def row_of(book, text, many):
    return book(text * many) if len(text) * many <= 200 else None


def some_texts(chance, book):
    """Texts with and without an order, rows of texts, and texts that are turned by others."""
    x, y = some_text(chance, book, 4), some_text(chance, book, 3)
    loop = chance.choice(book.signs)
    return ["", some_text(chance, book, 9), y * chance.randint(1, 4), x + loop + undone(book, x),
            x + y * chance.randint(1, 3) + undone(book, x), loop * chance.randint(1, 5)]


class OrderTest(unittest.TestCase):
    def test_by_hand(self):
        self.assertEqual(order(book=GROUP, text=""), 1)
        self.assertEqual(order(GROUP, "ab"), 1)
        self.assertIsNone(order(GROUP, "a"))
        self.assertEqual([order(MIXED, text) for text in ("", "c", "d", "e", "dd", "cc", "cd", "a", "acb", "adb", "adc")],
                         [1, 2, 3, 3, 3, 1, None, None, 2, 3, None])
        self.assertEqual(order(MIXED, "a" * 99 + "dd" + "b" * 99), 3)
        # A loop inside, although the text does not end with what undoes its first sign: cdce, e and then c and d.
        self.assertEqual(order(MIXED, "dce"), 2)
        self.assertEqual(order(MIXED, "dcd"), None)
        self.assertEqual(order(MIXED, "dacbe"), 2)
        for table, orders in ((C[6], [1, 2, 3, 3, 6, 6]), (S3, [1, 2, 2, 2, 3, 3]), (V4, [1, 2, 2, 2])):
            book, _ = groupkit.group_book(brute.made(1), [(table, 1)])
            self.assertEqual(sorted(order(book, text) for text in [""] + list(book.signs)), orders)

    def test_against_powers(self):
        chance = brute.made(1)
        found = {}
        for book, _ in groupkit.books(30, extra=2):
            for _ in range(4):
                for text in some_texts(chance, book):
                    told, pair = order(book, text), powers(book, text)
                    self.assertEqual(told, None if pair is None else pair[1])
                    found[told] = found.get(told, 0) + 1
        for told in (None, 1, 2, 3, 4):
            self.assertGreater(found[told], 5, found)

    def test_what_the_document_says_of_loops(self):
        for book, arrows in groupkit.books(31):
            short = ends_of(book, 2)
            loops = [sign for sign in book.signs if arrows[sign][1] == arrows[sign][2]]
            turned = {book(x + loop + undone(book, x)) for x in short for loop in loops} | {""}
            for end in short:
                if order(book, end) is None:
                    self.assertNotIn(end, turned)
            for end in turned:
                self.assertIsNotNone(order(book, end))


class CarriedTest(unittest.TestCase):
    def assert_carries(self, book, one, other):
        told = carried(book, one, other)
        self.assertIsNotNone(told, (book.rules, one, other))
        self.assertEqual(over(book, told), told)
        self.assertEqual(over(book, one + told), over(book, told + other))

    def test_by_hand(self):
        self.assert_carries(GROUP, "a", "a")
        self.assertIsNone(carried(GROUP, "a", "b"))
        self.assertIsNone(carried(book=GROUP, one="", other="a"))
        self.assert_carries(GROUP, "", "ab")
        self.assert_carries(FREE_TWO, "acb", "c")
        self.assert_carries(FREE_TWO, "ac", "ca")
        self.assertIsNone(carried(FREE_TWO, "ac", "ad"))
        self.assertIsNone(carried(FREE_TWO, "aacc", "acac"))
        self.assert_carries(MIXED, "d", "cdc")
        self.assertIsNone(carried(MIXED, "d", "e"))
        self.assert_carries(MIXED, "adcb", "cd")
        # Two loops of one table that is turned by its own loops.
        book, _ = groupkit.group_book(brute.made(2), [(S3, 1)])
        twos = [sign for sign in book.signs if order(book, sign) == 2]
        threes = [sign for sign in book.signs if order(book, sign) == 3]
        for one in twos:
            for other in twos:
                self.assert_carries(book, one, other)
            self.assertIsNone(carried(book, one, threes[0]))
        self.assert_carries(book, threes[0], threes[1])

    def test_long_texts(self):
        chance = brute.made(3)
        for book in (FREE_TWO, MIXED):
            for _ in range(5):
                x, y = some_text(chance, book, 60), some_text(chance, book, 70)
                self.assert_carries(book, (x + y)[:200], (y + x)[:200])
                end = book(x + y + undone(book, x))
                self.assert_carries(book, end, y)
        self.assert_carries(FREE_TWO, "ac" * 99 + "ad", "c" + "ac" * 98 + "ada")
        self.assertIsNone(carried(FREE_TWO, "ac" * 100, "ac" * 99))

    def test_against_all_short_ends(self):
        chance = brute.made(2)
        found = {True: 0, False: 0}
        for book, _ in groupkit.books(32, extra=2):
            short = ends_of(book, size_for(book))
            for _ in range(3):
                for one in some_texts(chance, book):
                    x = chance.choice(short)
                    self.assert_carries(book, one, undone(book, x) + one + x)
                    other = some_text(chance, book, len(book(one)))
                    told = carried(book, one, other)
                    found[told is None] += 1
                    if told is None:
                        for end in short:
                            self.assertNotEqual(book(one + end), book(end + other))
                    else:
                        self.assert_carries(book, one, other)
        self.assertGreater(min(found.values()), 50)


class RootTest(unittest.TestCase):
    def test_by_hand(self):
        self.assertEqual(root(book=GROUP, text="aaa"), ("a", 3))
        self.assertEqual(root(GROUP, "ba" + "b" * 7), ("b", 7))
        self.assertEqual(root(FREE_TWO, "ac"), ("ac", 1))
        self.assertEqual(root(FREE_TWO, "acac"), ("ac", 2))
        self.assertEqual(root(FREE_TWO, "caad"), ("cad", 2))
        self.assertEqual(root(FREE_TWO, "cacacd"), ("ca", 2))
        self.assertEqual(root(FREE_TWO, "ac" * 100), ("ac", 100))
        self.assertEqual(root(FREE_TWO, "a" * 200), ("a", 200))
        self.assertEqual(root(MIXED, "cdcd"), ("cd", 2))
        # Twice c and then e, turned by d: what stands in the midst is what dd or ee comes to.
        self.assertEqual(root(MIXED, "dcecd"), ("dcd", 2))
        self.assertEqual(root(MIXED, "ecdce"), ("ece", 2))
        self.assertEqual(root(MIXED, "cdcdd"), ("cdce", 1))
        for told in (root(GROUP, "aaa"), root(FREE_TWO, "ca")):
            self.assertIs(type(told), tuple)

    def test_has_order(self):
        for text, number in (("", 1), ("ab", 1), ("c", 2), ("acb", 2), ("e", 3), ("caedbc", 1), ("caebc", 3)):
            with self.assertRaises(HasOrder) as caught:
                root(MIXED, text)
            self.assertEqual(caught.exception.number, number)

    def test_against_all_short_ends(self):
        chance = brute.made(4)
        found = {}
        for book, _ in groupkit.books(33, extra=2):
            short = ends_of(book, size_for(book))
            for _ in range(3):
                for text in some_texts(chance, book):
                    if order(book, text) is not None:
                        continue
                    told, number = root(book, text)
                    found[number] = found.get(number, 0) + 1
                    self.assertEqual(book(told), told)
                    self.assertEqual(row_of(book, told, number), book(text))
                    for end in short:
                        for many in range(2, 8):
                            if row_of(book, end, many) == book(text):
                                self.assertLessEqual(many, number)
                                self.assertEqual(number % many, 0)
                                self.assertEqual(end == told, many == number)
        for number in (1, 2, 3):
            self.assertGreater(found[number], 10, found)

    def test_rows_of_texts(self):
        chance = brute.made(5)
        for book, _ in groupkit.books(34):
            for _ in range(10):
                text, many = some_text(chance, book, 6), chance.randint(1, 9)
                if order(book, text) is None:
                    told, number = root(book, text)
                    again, more = root(book, text * many)
                    self.assertEqual((again, more), (told, number * many))
                    self.assertEqual(root(book, undone(book, text)), (undone(book, told), number))


class ExchangingTest(unittest.TestCase):
    def test_by_hand(self):
        self.assertEqual(exchanging(book=GROUP, text="aa"), whole(GROUP))
        self.assertEqual(exchanging(FREE_TWO, ""), whole(FREE_TWO))
        self.assertEqual(exchanging(FREE_TWO, "caabbd"), whole(FREE_TWO))
        self.assertEqual(exchanging(FREE_TWO, "acac"), bag(FREE_TWO, ["ac", "db"]).again())
        self.assertEqual(exchanging(FREE_TWO, "caad"), bag(FREE_TWO, ["cad", "cbd"]).again())
        self.assertEqual(exchanging(MIXED, "c"), bag(MIXED, ["", "c"]))
        self.assertEqual(exchanging(MIXED, "adb"), bag(MIXED, ["", "adb", "aeb"]))
        book, _ = groupkit.group_book(brute.made(2), [(S3, 1)])
        for sign in book.signs:
            self.assertEqual(len(exchanging(book, sign).listed(9)), 2 if order(book, sign) == 2 else 3)

    def test_against_all_short_ends(self):
        chance = brute.made(6)
        for book, _ in groupkit.books(35, extra=2):
            short = ends_of(book, size_for(book))
            for text in some_texts(chance, book) + some_texts(chance, book):
                lot = exchanging(book, text)
                for end in short:
                    self.assertIs(end in lot, book(end + text) == book(text + end))
                for end in lot.listed(20):
                    self.assertEqual(book(end + text), book(text + end))
                if lot.automaton[0] <= 40:
                    self.assertEqual(Lot(book, lot.automaton), lot)

    def test_too_many_states(self):
        self.assertEqual(exchanging(FREE_TWO, "a" * 198 + "c").automaton[0], 399)
        with self.assertRaises(TooMany) as caught:
            exchanging(FREE_TWO, "a" * 199 + "c")
        self.assertEqual(caught.exception.word, "state")
        self.assertEqual(exchanging(FREE_TWO, "a" * 200).automaton[0], 3)
        self.assertEqual(exchanging(MIXED, "a" * 99 + "d" + "b" * 99).automaton[0], 200)
        with mock.patch.object(least, "MOST_KEPT_STATES", 2):
            with self.assertRaises(TooMany):
                exchanging(FREE_TWO, "a")


if __name__ == "__main__":
    unittest.main()
