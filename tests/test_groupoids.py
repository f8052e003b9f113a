"""Points [27] and [30]: group books, places, and what undoes texts and lots."""

import unittest
from unittest import mock

import brute
import groupkit
from lotkit import BRACKETS, FREE, GROUP, LOOSE, NOTHING, bag, ends_of, loop, some_lot, some_text
from shrunkalike import groupoids
from shrunkalike.books import Book
from shrunkalike.carrying import carried, exchanging, order, root
from shrunkalike.errors import BadText, NotSettled, NotShort, NoUndo, TooMany
from shrunkalike.groupoids import places, undo_signs, undone, undone_lot
from shrunkalike.groupparts import parts, standard
from shrunkalike.lots import Lot, single, whole
from shrunkalike.samegroups import same_group
from shrunkalike.singles import is_group

UNSETTLED = Book("ab", (("ab", "a"), ("ba", "b"), ("bb", "a")))
# Not settled, not short and without undoing signs all at once; then without the first of these; and so on.
ALL_WRONG = Book("abc", (("abc", ""), ("bca", "b")))
NOT_SHORT = Book("abc", (("aa", ""), ("bbb", "b")))
NO_UNDO = Book("abc", (("aa", ""), ("bc", "")))
ASKING = (undo_signs, places, parts, standard)
ASKING_WITH_TEXT = (undone, order, root, exchanging)


def size_for(book):
    return {1: 7, 2: 6, 3: 5, 4: 4}.get(len(book.signs), 3)


class GroupBookTest(unittest.TestCase):
    def all_calls(self, book, thing):
        calls = [(function, (book,)) for function in ASKING]
        calls += [(function, (book, thing)) for function in ASKING_WITH_TEXT]
        calls += [(carried, (book, thing, "a")), (carried, (book, "a", thing)), (carried, (book, thing, thing))]
        return calls + [(same_group, (book, GROUP)), (same_group, (GROUP, book)), (same_group, (book, book))]

    def assert_all_raise(self, error, attribute, told, book):
        for thing in ("", "a", "ab", "z", True, None, 5, ["a"], "a" * 201):
            for function, passed in self.all_calls(book, thing):
                with self.assertRaises(error) as caught:
                    function(*passed)
                self.assertEqual(getattr(caught.exception, attribute), told, function)

    def test_not_settled(self):
        for book in (UNSETTLED, ALL_WRONG, LOOSE):
            self.assertIsNotNone(book.quarrel)
            self.assert_all_raise(NotSettled, "text", book.quarrel, book)

    def test_not_short(self):
        self.assert_all_raise(NotShort, "left", "bbb", NOT_SHORT)
        self.assert_all_raise(NotShort, "left", "a", Book("ab", (("a", ""), ("bb", ""))))
        # The first left side as texts are ordered, not as the rules stand there.
        self.assert_all_raise(NotShort, "left", "b", Book("abc", (("aa", ""), ("ccc", ""), ("b", ""))))
        self.assert_all_raise(NotShort, "left", "abab", Book("abc", (("cc", ""), ("abab", ""), ("baba", ""))))

    def test_no_undo(self):
        self.assert_all_raise(NoUndo, "sign", "b", NO_UNDO)
        self.assert_all_raise(NoUndo, "sign", "a", FREE)
        self.assert_all_raise(NoUndo, "sign", "a", BRACKETS)
        self.assert_all_raise(NoUndo, "sign", "c", Book("abc", (("ab", ""), ("ba", ""))))
        self.assert_all_raise(NoUndo, "sign", "a", Book("ab", (("aa", "a"), ("bb", ""))))

    def test_the_one_goes_ahead_of_the_other(self):
        for one, error in ((ALL_WRONG, NotSettled), (NOT_SHORT, NotShort), (NO_UNDO, NoUndo)):
            for other in (ALL_WRONG, NOT_SHORT, NO_UNDO):
                with self.assertRaises(error):
                    same_group(one, other)
                with self.assertRaises(error):
                    same_group(one=GROUP, other=one)

    def test_what_is_no_text(self):
        for thing in (True, None, 5, 1.5, ["a"], ("a",), b"a", "z", "A", "a b", "a" * 201):
            for function in ASKING_WITH_TEXT:
                with self.assertRaises(BadText) as caught:
                    function(GROUP, thing)
                self.assertIs(caught.exception.thing, thing)
            for passed in ((GROUP, thing, "a"), (GROUP, "a", thing), (GROUP, thing, 7)):
                with self.assertRaises(BadText) as caught:
                    carried(*passed)
                self.assertIs(caught.exception.thing, thing)

    def test_lots(self):
        for lot, error, told in ((whole(NO_UNDO), NoUndo, "b"), (whole(NOT_SHORT), NotShort, "bbb"),
                                 (Lot(FREE, NOTHING), NoUndo, "a"), (single(BRACKETS, "a"), NoUndo, "a")):
            with self.assertRaises(error) as caught:
                undone_lot(lot)
            self.assertIn(told, vars(caught.exception).values())

    def test_longer_rules_do_not_count(self):
        book = Book("ab", (("aba", "a"), ("abab", ""), ("ab", ""), ("ba", ""), ("bab", "b")))
        self.assertEqual((undo_signs(book), places(book)), ("ba", ((0, 1), (1, 0))))
        self.assertEqual(undone(book, "aab"), "b")


class PlacesTest(unittest.TestCase):
    def test_by_hand(self):
        self.assertEqual(undo_signs(book=GROUP), "ba")
        self.assertEqual(places(book=GROUP), ((0, 1), (1, 0)))
        self.assertEqual(places(Book("x", (("xx", ""),))), ((0, 0),))
        self.assertEqual(undo_signs(Book("x", (("xx", ""),))), "x")
        # Signs that hang together nowhere, each undone by itself.
        self.assertEqual(places(Book("dmq", (("qq", ""), ("dd", ""), ("mm", "")))), ((0, 0), (1, 1), (2, 2)))
        self.assertEqual(undo_signs(Book("dmq", (("qq", ""), ("dd", ""), ("mm", "")))), "dmq")
        # Three places, from each of which one sign leads to each other one.
        names = {(0, 1): "f", (0, 2): "b", (1, 0): "a", (1, 2): "e", (2, 0): "d", (2, 1): "c"}
        rules = [(names[p, q] + names[q, r], names.get((p, r), "")) for p, q in names for r in range(3) if r != q]
        book = Book("abcdef", tuple(rules[::-1]))
        # The first signs: a begins at the place that is called 1 here, b at 0, c at 2.
        call = {1: 0, 0: 1, 2: 2}
        told = {sign: (call[p], call[q]) for (p, q), sign in names.items()}
        self.assertEqual(places(book), tuple(told[sign] for sign in "abcdef"))
        self.assertEqual(undo_signs(book), "".join(names[q, p] for sign in "abcdef" for (p, q) in names
                                                   if names[p, q] == sign))

    def test_against_arrows(self):
        for seed in range(6):
            for book, arrows in groupkit.books(seed, extra=4 * (seed % 2)):
                heads = []
                for sign in book.signs:
                    if arrows[sign][:2] not in heads:
                        heads.append(arrows[sign][:2])
                told = [(heads.index((k, i)), heads.index((k, j))) for k, i, j, _ in map(arrows.get, book.signs)]
                self.assertEqual(places(book), tuple(told))
                undoing = undo_signs(book)
                self.assertEqual(len(undoing), len(book.signs))
                for one, other in zip(book.signs, undoing):
                    self.assertEqual((book(one + other), book(other + one)), ("", ""))

    def test_against_the_words_of_the_document(self):
        for seed in range(3):
            for book, _ in groupkit.books(seed + 10, extra=2):
                undoing, told = dict(zip(book.signs, undo_signs(book))), dict(zip(book.signs, places(book)))
                lefts = {left for left, _ in book.rules if len(left) == 2}
                for x in book.signs:
                    self.assertEqual(told[x][1], told[undoing[x]][0])
                    for y in book.signs:
                        together = x == y or undoing[x] + y in lefts
                        self.assertIs(together, told[x][0] == told[y][0])
                        self.assertIs(told[x][1] == told[y][0], x + y in lefts)
                        if x + y in lefts and book(x + y):
                            self.assertEqual(told[book(x + y)], (told[x][0], told[y][1]))
                firsts = [told[x][0] for x in book.signs]
                self.assertEqual(sorted(set(firsts), key=firsts.index), list(range(max(firsts) + 1)))

    def test_they_are_groups(self):
        for book, _ in groupkit.books(3):
            self.assertTrue(is_group(book))

    def test_nothing_else_is_a_group_book(self):
        chance = brute.made(9)
        found = {NotSettled: 0, NotShort: 0, NoUndo: 0, None: 0}
        for _ in range(1500):
            book = Book("ab", brute.some_rules(chance, "ab", 5, 3))
            quarrel = book.quarrel
            lefts = {left for left, _ in book.rules}
            least = sorted((left for left in lefts if not any(piece in left for piece in lefts - {left})),
                           key=brute.order)
            long = [left for left in least if len(left) != 2]
            alone = [x for x in "ab" if not any(brute.ends(book.rules, x + y) == [""] == brute.ends(book.rules, y + x)
                                                for y in "ab")]
            error, told = None, None
            if quarrel is not None:
                error, told = NotSettled, quarrel
            elif long:
                error, told = NotShort, long[0]
            elif alone:
                error, told = NoUndo, alone[0]
            found[error] += 1
            if error is None:
                self.assertEqual(len(undo_signs(book)), 2)
            else:
                with self.assertRaises(error) as caught:
                    places(book)
                self.assertIn(told, vars(caught.exception).values())
        self.assertGreater(min(found.values()), 3, found)


class UndoneTest(unittest.TestCase):
    def test_texts(self):
        self.assertEqual(undone(book=GROUP, text="aab"), "b")
        self.assertEqual(undone(GROUP, ""), "")
        self.assertEqual(undone(GROUP, "ab"), "")
        self.assertEqual(undone(GROUP, "a" * 200), "b" * 200)
        chance = brute.made(4)
        for book, _ in groupkit.books(4, extra=2):
            for _ in range(10):
                text = some_text(chance, book, 12)
                told = undone(book, text)
                self.assertEqual(book(told), told)
                self.assertEqual((book(told + text), book(text + told)), ("", ""))
                self.assertEqual(undone(book, told), book(text))

    def test_lots(self):
        self.assertEqual(undone_lot(lot=bag(GROUP, ["aa", "b", ""])), bag(GROUP, ["bb", "a", ""]))
        self.assertEqual(undone_lot(Lot(GROUP, loop("a"))), Lot(GROUP, loop("b")))
        self.assertEqual(undone_lot(Lot(GROUP, NOTHING)), Lot(GROUP, NOTHING))
        chance = brute.made(5)
        for book, _ in groupkit.books(5, extra=2):
            self.assertEqual(undone_lot(whole(book)), whole(book))
            short = ends_of(book, size_for(book))
            for _ in range(3):
                lot = some_lot(chance, book)
                told = undone_lot(lot)
                for end in short:
                    self.assertIs(end in told, undone(book, end) in lot)
                self.assertEqual(undone_lot(told), lot)
                self.assertEqual(Lot(book, told.automaton), told) if told.automaton[0] <= 40 else None

    def test_too_many_states(self):
        book = Book("abcd", (("ab", ""), ("ba", ""), ("cd", ""), ("dc", "")))
        # The seventh sign from behind is an a; read from ahead it is the seventh one.
        step = Lot(book, loop("ac"))
        early = single(book, "")
        for _ in range(8):
            early = early * bag(book, ["a", "c"])
        early = early * single(book, "a") * step
        self.assertLess(early.automaton[0], 20)
        with self.assertRaises(TooMany) as caught:
            undone_lot(early)
        self.assertEqual(caught.exception.word, "state")
        with mock.patch.object(groupoids, "MOST_KEPT_STATES", 3):
            self.assertEqual(undone_lot(single(GROUP, "aa")).automaton[0], 3)
            with self.assertRaises(TooMany):
                undone_lot(single(GROUP, "aaa"))
        long = single(book, "ac" * 100) * single(book, "ac" * 99 + "a")
        self.assertEqual(undone_lot(long).automaton[0], 400)


if __name__ == "__main__":
    unittest.main()
