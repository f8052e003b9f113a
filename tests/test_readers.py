"""Point [32]: right and wrong texts."""

import unittest
from unittest import mock

import brute
from lotkit import (BOOKS, BRACKETS, FREE, GROUP, NOTHING, bag, chain, ends_of, loop, reads, some_bag, some_books,
                    some_lot, some_text)
from shrunkalike import least
from shrunkalike.books import Book, over
from shrunkalike.errors import BadAutomaton, BadMend, BadPrice, BadText, TooMany
from shrunkalike.lots import Lot, single, whole
from shrunkalike.prices import Cheapest, cheapest
from shrunkalike.quotients import some_ahead
from shrunkalike.readers import AllRight, Reader

ONE = Book("a", ())
NO_TEXTS = (None, True, 5, ["a"], ("a",), "z", "A", "a" * 201)


def size_for(book):
    return {1: 7, 2: 5, 3: 4}.get(len(book.signs), 3)


def goals(chance, book):
    return [Lot(book, NOTHING), whole(book), single(book, ""), some_bag(chance, book, 4, 4), some_lot(chance, book),
            some_lot(chance, book), whole(book) - some_bag(chance, book, 4, 3)]


def all_goals(seed):
    chance = brute.made(seed)
    return [(chance, goal) for book in BOOKS + some_books(seed, 6) for goal in goals(chance, book)]


class ReaderTest(unittest.TestCase):
    def test_by_hand(self):
        reader = Reader(goal=single(BRACKETS, ""))
        self.assertEqual(reader.goal, single(BRACKETS, ""))
        self.assertEqual(reader.live, Lot(BRACKETS, loop("a")))
        self.assertIs(reader.right("aabbab"), True)
        self.assertIs(reader.right(text="aab"), False)
        self.assertEqual([reader.fault(text) for text in ("", "ab", "a", "aab", "b", "abb", "aabbbaa", "bbb")],
                         [None, None, 1, 3, 0, 2, 4, 0])
        self.assertEqual([reader.wanted(text) for text in ("", "a", "b", "ab")],
                         [("a", True), ("ab", False), ("", False), ("a", True)])
        self.assertEqual([reader.completion(text) for text in ("", "aa", "b", "aab")], ["", "bb", None, "b"])
        self.assertEqual(reader.fillings(ahead="aa", behind="b"), bag(BRACKETS, ["b", "bba"]))
        self.assertEqual(reader.fillings("b", ""), Lot(BRACKETS, NOTHING))

    def test_empty_goal_and_whole(self):
        reader = Reader(Lot(GROUP, NOTHING))
        self.assertEqual(reader.live, Lot(GROUP, NOTHING))
        self.assertEqual([reader.fault(text) for text in ("", "a", "ab")], [-1, -1, -1])
        self.assertEqual((reader.wanted("a"), reader.completion("")), (("", False), None))
        self.assertEqual(reader.fillings("", ""), Lot(GROUP, NOTHING))
        reader = Reader(whole(GROUP))
        self.assertEqual(reader.live, whole(GROUP))
        self.assertIsNone(reader.fault("abba"))
        self.assertEqual((reader.wanted("a"), reader.completion("a")), (("ab", True), ""))
        self.assertEqual(reader.fillings("a", "b"), whole(GROUP))

    def test_against_short_texts(self):
        seen = {}
        for chance, goal in all_goals(1):
            book, reader = goal.book, Reader(goal)
            self.assertEqual(reader.live, some_ahead(whole(book), goal))
            behind = brute.texts(book.signs, size_for(book) - 1)
            for text in ["", book.signs] + [some_text(chance, book, 6) for _ in range(4)]:
                right = reads(goal.automaton, book(text))
                self.assertIs(reader.right(text), right)
                # A live text has a completion, which shows it; behind another one no short text helps.
                self.assertIs(text in reader.live, reader.completion(text) is not None)
                helping = [z for z in behind if reads(goal.automaton, over(book, text + z))]
                told = reader.completion(text)
                if helping:
                    self.assertEqual(told, helping[0])
                elif told is not None:
                    self.assertGreater(brute.order(told), brute.order(behind[-1]))
                    self.assertTrue(reads(goal.automaton, over(book, text + told)))
                fault = reader.fault(text)
                live = [size for size in range(len(text) + 1) if reader.completion(text[:size]) is not None]
                self.assertEqual(fault, None if right else max(live, default=-1))
                signs = "".join(sign for sign in book.signs if reader.completion(text + sign) is not None)
                self.assertEqual(reader.wanted(text), (signs, right))
                self.assertIs(type(reader.wanted(text)), tuple)
                kind = "right" if right else "never" if fault == -1 else "end" if fault == len(text) else "within"
                seen[kind] = seen.get(kind, 0) + 1
        for kind in ("right", "never", "end", "within"):
            self.assertGreater(seen[kind], 50, seen)

    def test_fillings_against_short_ends(self):
        for chance, goal in all_goals(2):
            book, reader = goal.book, Reader(goal)
            for _ in range(2):
                ahead, behind = some_text(chance, book, 4), some_text(chance, book, 4)
                lot = reader.fillings(ahead, behind)
                for end in ends_of(book, size_for(book)):
                    self.assertIs(end in lot, reads(goal.automaton, over(book, ahead + end + behind)))

    def test_wrong_texts(self):
        reader = Reader(whole(GROUP))
        for thing in NO_TEXTS:
            for call in (reader.right, reader.fault, reader.wanted, reader.completion):
                with self.assertRaises(BadText) as caught:
                    call(thing)
                self.assertIs(caught.exception.thing, thing)
            for passed in ((thing, "a"), ("a", thing), (thing, 7.5), (thing, "z")):
                with self.assertRaises(BadText) as caught:
                    reader.fillings(*passed)
                self.assertIs(caught.exception.thing, thing)

    def test_long_texts(self):
        reader = Reader(single(GROUP, "a" * 200) | single(GROUP, "b" * 150))
        self.assertIs(reader.right("a" * 200), True)
        self.assertEqual(reader.completion("b" * 200), "a" * 50)
        self.assertEqual(reader.fillings("a" * 120, "a" * 100), bag(GROUP, ["b" * 20, "b" * 200]) - single(
            GROUP, "b" * 200) | single(GROUP, "b" * 185) * single(GROUP, "b" * 185))
        reader = Reader(single(FREE, "ab" * 100) * single(FREE, "a" * 199))
        self.assertEqual(reader.fault("ab" * 99 + "b" * 2), 198)
        self.assertEqual(reader.fault("ab" * 100), 200)
        self.assertEqual(reader.completion("ab" * 100), "a" * 199)
        self.assertEqual(reader.completion("ab"), "ab" * 99 + "a" * 199)

    def test_too_many_states(self):
        reader = Reader(single(GROUP, "a" * 200) | single(GROUP, "b" * 150))
        self.assertEqual(reader.fillings("a" * 199, "a" * 50).automaton[0], 400)
        with self.assertRaises(TooMany) as caught:
            reader.fillings("a" * 200, "a" * 50)
        self.assertEqual(caught.exception.word, "state")
        # What is live goes on with the last sign of the goal, or has a c in the place of an a.
        book = Book("abcde", (("ce", "a"),))
        for more, many in (("baba", 399), ("bbaba", 400)):
            goal = single(book, "ab" * 100) * single(book, "ab" * 97 + more) * Lot(book, loop("d"))
            self.assertEqual(goal.automaton[0], many)
            if many < 400:
                self.assertEqual(Reader(goal).live.automaton[0], many + 1)
            else:
                with self.assertRaises(TooMany) as caught:
                    Reader(goal)
                self.assertEqual(caught.exception.word, "state")


class AllRightTest(unittest.TestCase):
    def test_by_hand(self):
        reader = Reader(single(BRACKETS, ""))
        told = reader.all_right(automaton=(2, ((0, "a", 1), (1, "b", 0)), (0,)))
        self.assertIsInstance(told, AllRight)
        self.assertTrue(told.holds is True and bool(told))
        self.assertEqual((told.text, told.at), (None, None))
        told = reader.all_right([1, [(0, "a", 0), [0, "b", 0]], [0]])
        self.assertTrue(told.holds is False and not told)
        self.assertEqual((told.text, told.at), ("a", 1))
        self.assertEqual(reader.all_right(chain("abbab")).at, 2)
        told = Reader(Lot(GROUP, NOTHING)).all_right(chain("ab"))
        self.assertEqual((told.text, told.at), ("ab", -1))
        self.assertTrue(Reader(Lot(GROUP, NOTHING)).all_right(NOTHING))
        self.assertTrue(Reader(whole(GROUP)).all_right((1, ((0, "a", 0), (0, "b", 0)), (0,))))

    def test_against_short_texts(self):
        found = {True: 0, False: 0}
        for chance, goal in all_goals(3):
            book, reader = goal.book, Reader(goal)
            for _ in range(4):
                automaton = brute.some_automaton(chance, book.signs, 4, 7)
                told = reader.all_right(automaton)
                found[told.holds] += 1
                wrong = [text for text in brute.language(book.signs, automaton, size_for(book))
                         if not reads(goal.automaton, book(text))]
                if told:
                    self.assertEqual(wrong, [])
                elif wrong:
                    self.assertEqual((told.text, told.at), (wrong[0], reader.fault(wrong[0])))
                else:
                    self.assertGreater(len(told.text), size_for(book))
                    self.assertTrue(brute.accepts(automaton, told.text))
                    self.assertEqual(told.at, reader.fault(told.text))
                    self.assertIsNotNone(told.at)
        self.assertGreater(min(found.values()), 150)

    def test_the_least_text_of_those_that_mean_the_same(self):
        # The texts that mean a are long, and those that mean aa are short; the least wrong text means aa.
        goal = whole(GROUP) - bag(GROUP, ["a", "aa"])
        automaton = (8, ((0, "a", 1), (0, "b", 3), (1, "a", 2), (3, "a", 4), (4, "a", 5), (5, "", 7)), (2, 7))
        told = Reader(goal).all_right(automaton)
        self.assertEqual((told.text, told.at), ("aa", 2))

    def test_long_texts(self):
        for size, more in ((200, ""), (200, "a"), (150, "")):
            goal = whole(ONE) - single(ONE, "a" * size) * single(ONE, more)
            reader = Reader(goal)
            if more:
                with self.assertRaises(TooMany) as caught:
                    reader.all_right((1, ((0, "a", 0),), (0,)))
                self.assertEqual(caught.exception.word, "sign")
            else:
                told = reader.all_right((1, ((0, "a", 0),), (0,)))
                self.assertEqual((told.text, told.at), ("a" * size, size))
        ring = (40, tuple((k, "a", (k + 1) % 40) for k in range(40)), (39,))
        self.assertTrue(Reader(whole(ONE) - single(ONE, "a" * 200)).all_right(ring))

    def test_wrong_automata(self):
        reader = Reader(whole(GROUP))
        for thing, place in ((None, -1), ((1, (), (1,)), 0), ((1, ((0, "c", 0),), ()), 0), ((41, (), ()), -1),
                             ((2, ((0, "a", 1), (0, "a", 1)), ()), 1)):
            with self.assertRaises(BadAutomaton) as caught:
                reader.all_right(thing)
            self.assertEqual(caught.exception.place, place)


class MendingTest(unittest.TestCase):
    def test_by_hand(self):
        reader = Reader(single(BRACKETS, ""))
        told = reader.mending(text="aab", prices=(0,), mends=(("", "b", 3), ("a", "", 5)))
        self.assertIsInstance(told, Cheapest)
        self.assertTrue(told.holds is True and bool(told))
        self.assertEqual((told.price, told.text, told.goal_text, len(told.run)), (3, "aab", "", 3))
        told = reader.mending("ab", [7], [])
        self.assertEqual((told.price, told.text, told.goal_text, told.run), (7, "ab", "", ((0, 0),)))
        told = reader.mending("aab", (0,), ())
        self.assertTrue(told.holds is False and not told)
        self.assertEqual((told.price, told.text, told.goal_text, told.run), (None, None, None, None))
        self.assertEqual(Reader(Lot(BRACKETS, NOTHING)).mending("", (0,), (("", "a", 1),)).holds, False)

    def check(self, reader, text, prices, mends):
        book = reader.goal.book
        deeds = [(left, right, price) for (left, right), price in zip(book.rules, prices)] + list(mends)
        told = reader.mending(text, prices, mends)
        if told:
            self.assertEqual(told.text, text)
            self.assertEqual(sum(deeds[number][2] for _, number in told.run), told.price)
            for place, number in told.run:
                self.assertEqual(text[place:place + len(deeds[number][0])], deeds[number][0])
                text = brute.after(deeds, text, (place, number))
            self.assertEqual(text, told.goal_text)
            self.assertTrue(reads(reader.goal.automaton, text))
        return told

    def test_against_all_runs(self):
        found = {}
        for chance, goal in all_goals(4):
            book = goal.book
            if len(book.signs) > 2:
                continue
            prices = tuple(chance.randint(0, 3) for _ in book.rules)
            mends = brute.some_mends(chance, book.signs, 3, 4, 2)
            deeds = [(left, right, price) for (left, right), price in zip(book.rules, prices)] + list(mends)
            reader = Reader(goal)
            best = brute.led_prices(deeds, 6, book.signs, goal.automaton)
            for text in [some_text(chance, book, 4) for _ in range(3)]:
                told = self.check(reader, text, prices, mends)
                if text in best:
                    self.assertLessEqual((told.price, len(told.run)), best[text])
                if told and max([len(told.text)] + [len(told.goal_text)]) <= 6 and all(
                        left or not right for left, right, _ in mends):
                    # Nothing can grow, so all texts on the way are short.
                    self.assertEqual((told.price, len(told.run)), best[text])
                kind = "none" if not told else "free" if told.price == 0 else "costs"
                found[kind] = found.get(kind, 0) + 1
        for kind in ("none", "free", "costs"):
            self.assertGreater(found[kind], 25, found)

    def test_against_cheapest(self):
        for chance, goal in all_goals(5):
            if goal.automaton[0] > 40:
                continue
            book = goal.book
            prices = tuple(chance.randint(0, 1000) for _ in book.rules)
            mends = brute.some_mends(chance, book.signs, 6, 1000)
            text = some_text(chance, book, 8)
            told = self.check(Reader(goal), text, prices, mends)
            other = cheapest(book, prices, mends, chain(text), goal.automaton)
            self.assertEqual((told.holds, told.price, told.text), (other.holds, other.price, other.text))
            if told:
                self.assertEqual(len(told.run), len(other.run))

    def test_right_texts_are_led_by_rules(self):
        for chance, goal in all_goals(6):
            text = some_text(chance, goal.book, 8)
            told = self.check(Reader(goal), text, (0,) * len(goal.book.rules), ())
            self.assertIs(told.holds, reads(goal.automaton, goal.book(text)))

    def test_long_goals(self):
        far = single(FREE, "ab" * 100) * single(FREE, "b" * 199)
        self.assertGreater(far.automaton[0], 399)
        told = self.check(Reader(far), "ab" * 19 + "a", (), (("", "a", 2), ("", "b", 3)))
        self.assertEqual((told.price, len(told.run)), (2 * (100 - 20) + 3 * (299 - 19), 360))
        with self.assertRaises(TooMany) as caught:
            Reader(far).mending("ab" * 19, (), (("", "a", 2), ("", "b", 0), ("b", "", 0), ("a", "b", 0), ("b", "a", 3)))
            Reader(far).mending("", (), (("", "a", 2), ("b", "a", 1), ("a", "b", 1)))
        self.assertEqual(caught.exception.word, "step")

    def test_errors_in_their_order(self):
        reader = Reader(whole(GROUP))
        for thing in NO_TEXTS:
            with self.assertRaises(BadText) as caught:
                reader.mending(thing, None, None)
            self.assertIs(caught.exception.thing, thing)
        for prices, place in ((None, -1), ((0,), -1), ((0, True), 1), ((0, 1001), 1), ((-1, None), 0)):
            with self.assertRaises(BadPrice) as caught:
                reader.mending("a", prices, None)
            self.assertEqual(caught.exception.place, place)
        for mends, place in ((None, -1), ((("a", "a", 1),), 0), ((("a", "", 1), ("a", "c", 1)), 1),
                             ([("a", "", 0)] * 65, -1), ((("aaaaa", "", 1), None), 0), ((("a", "", True),), 0)):
            with self.assertRaises(BadMend) as caught:
                reader.mending("a", [0, 0], mends)
            self.assertEqual(caught.exception.place, place)


if __name__ == "__main__":
    unittest.main()
