"""Points [20] and [21]: sayings, their plans, best picks, and turned sayings."""

import itertools
import unittest

import brute
from lotkit import (BOOKS, BRACKETS, FREE, GROUP, NOTHING, bag, ends_of, loop, rotations, some_bag, some_books,
                    some_lot, some_text)
from shrunkalike.books import Book
from shrunkalike.errors import BadNumber, BadText, BadTurn, TooMany, Unlike
from shrunkalike.lots import Lot, single, whole
from shrunkalike.quotients import every_ahead, every_behind, some_ahead, some_behind
from shrunkalike.sayings import Saying

HANDS = ("some", "every")
SIDES = ("ahead", "behind")


def put(book, side, picked, stands):
    return book(picked + stands if side == "ahead" else stands + picked)


def some_wins(saying, known, at, stands):
    """Whether `some` wins, by playing all picks; the lots have no more than 200 meanings."""
    if (at, stands) not in known:
        book = saying.goal.book
        if at == len(saying.turns):
            known[(at, stands)] = brute.accepts(saying.goal.automaton, stands)
        else:
            hand, side, lot = saying.turns[at]
            found = [some_wins(saying, known, at + 1, put(book, side, x, stands)) for x in lot.listed(200)]
            known[(at, stands)] = any(found) if hand == "some" else all(found)
    return known[(at, stands)]


def some_saying(chance, book, many, most=3, longest=2):
    goal = some_lot(chance, book) if chance.random() < 0.6 else some_bag(chance, book, 6, 4)
    turns = [(chance.choice(HANDS), chance.choice(SIDES), some_bag(chance, book, most, longest)) for _ in range(many)]
    return Saying(goal, tuple(turns))


class PlanTest(unittest.TestCase):
    def check(self, saying, longest):
        known = {}
        book = saying.goal.book
        self.assertIs(type(saying.plan), tuple)
        self.assertEqual(len(saying.plan), len(saying.turns) + 1)
        self.assertEqual(saying.plan[-1], saying.goal)
        self.assertEqual(saying.starts, saying.plan[0])
        for at, lot in enumerate(saying.plan):
            for end in ends_of(book, longest):
                self.assertIs(brute.accepts(lot.automaton, end), some_wins(saying, known, at, end))
        self.assertIs(saying.holds, some_wins(saying, known, 0, ""))
        self.assertIs(bool(saying), saying.holds)
        return saying.holds

    def test_against_all_picks(self):
        chance = brute.made(1)
        seen = []
        for book in BOOKS + some_books(4, 12):
            for many in (0, 1, 1, 2, 2, 3, 4):
                seen.append(self.check(some_saying(chance, book, many), 3 if len(book.signs) < 3 else 2))
        self.assertGreater(min(seen.count(True), seen.count(False)), 50)

    def test_6_turns(self):
        chance = brute.made(2)
        for book in [Book(*told) for told in brute.SETTLED] + [rotations(5)]:
            self.check(some_saying(chance, book, 6, 3, 1), 2)
            self.check(some_saying(chance, book, 5, 2, 2), 2)

    def test_each_hand_and_side(self):
        for book in (GROUP, BRACKETS, FREE, rotations(3)):
            first, goal = bag(book, ["a", "b"]), bag(book, ["", "a", "ab", "ba"])
            for turns in itertools.product(HANDS, SIDES):
                self.check(Saying(goal, (turns + (first,),)), 3)
            for one, other in itertools.product(itertools.product(HANDS, SIDES), repeat=2):
                self.check(Saying(goal, (one + (first,), other + (bag(book, ["b", "aa"]),))), 3)

    def test_finite_books_with_the_whole(self):
        for book in (rotations(2), rotations(5), Book("a", (("aaa", "a"),)), Book("ab", (("a", ""), ("b", "")))):
            for hands in itertools.product(HANDS, repeat=3):
                turns = [(hand, side, whole(book)) for hand, side in zip(hands, ("ahead", "behind", "ahead"))]
                for end in ends_of(book, 3):
                    self.check(Saying(single(book, end), turns), 3)

    def test_no_turns(self):
        for goal in (single(GROUP, ""), single(GROUP, "a"), Lot(GROUP, NOTHING)):
            saying = Saying(goal, ())
            self.assertEqual((saying.goal, saying.turns, saying.plan, saying.starts), (goal, (), (goal,), goal))
            self.assertIs(saying.holds, "" in goal)
            self.assertIs(bool(saying), saying.holds)

    def test_empty_lots(self):
        nothing = Lot(GROUP, NOTHING)
        for goal in (nothing, single(GROUP, "a"), whole(GROUP)):
            for side in SIDES:
                saying = Saying(goal, (("some", side, nothing),))
                self.assertEqual((saying.starts, saying.holds), (nothing, False))
                saying = Saying(goal, (("every", side, nothing),))
                self.assertEqual((saying.starts, saying.holds), (whole(GROUP), True))
        # Who comes first to a turn without picks has lost.
        turns = (("some", "ahead", nothing), ("every", "behind", nothing))
        self.assertFalse(Saying(whole(GROUP), turns))
        self.assertTrue(Saying(nothing, turns[::-1]))

    def test_endless_lots_step_by_step(self):
        chance = brute.made(3)
        calls = {("some", "ahead"): some_behind, ("every", "ahead"): every_behind, ("some", "behind"): some_ahead,
                 ("every", "behind"): every_ahead}
        for book in BOOKS:
            for many in (1, 2, 3):
                turns = [(chance.choice(HANDS), chance.choice(SIDES), some_lot(chance, book, 3)) for _ in range(many)]
                saying = Saying(some_lot(chance, book, 3), turns)
                for at, (hand, side, lot) in enumerate(turns):
                    self.assertEqual(saying.plan[at], calls[(hand, side)](lot, saying.plan[at + 1]))

    def test_by_hand(self):
        opened, closed = Lot(BRACKETS, loop("a")), Lot(BRACKETS, loop("b"))
        # For each row of opened ones there is one of closed ones behind it that closes all.
        saying = Saying(single(BRACKETS, ""), (("every", "behind", opened), ("some", "behind", closed)))
        self.assertTrue(saying)
        self.assertEqual(saying.plan[1], opened)
        self.assertEqual(saying.starts, opened)
        # But there is none that closes each row.
        self.assertFalse(Saying(single(BRACKETS, ""), (("some", "behind", closed), ("every", "ahead", opened))))
        # Opened ones put behind others can be closed only from behind.
        saying = Saying(goal=single(BRACKETS, ""), turns=(("every", "ahead", closed), ("some", "ahead", opened)))
        self.assertTrue(saying)
        saying = Saying(single(BRACKETS, ""), (("every", "ahead", closed), ("some", "behind", opened)))
        self.assertFalse(saying)
        self.assertEqual(saying.starts.listed(3), ())

    def test_what_is_kept(self):
        goal, lot = single(GROUP, "a"), single(GROUP, "b")
        saying = Saying(goal, [["some", "ahead", lot], ("every", "behind", lot)])
        self.assertEqual(saying.turns, (("some", "ahead", lot), ("every", "behind", lot)))
        self.assertEqual([type(turn) for turn in saying.turns], [tuple, tuple])
        self.assertIs(type(saying.turns), tuple)
        self.assertIs(saying.goal, goal)


class BestTest(unittest.TestCase):
    def check(self, saying, at, stands):
        hand, side, lot = saying.turns[at]
        book, aim = saying.goal.book, saying.plan[at + 1]
        winning = [x for x in lot.listed(200)
                   if brute.accepts(aim.automaton, put(book, side, x, stands)) is (hand == "some")]
        self.assertEqual(saying.best(at, stands), winning[0] if winning else None)
        wins = brute.accepts(saying.plan[at].automaton, book(stands))
        self.assertIs(bool(winning), wins is (hand == "some"))
        return bool(winning)

    def test_against_all_picks(self):
        chance = brute.made(4)
        seen = []
        for book in BOOKS + some_books(5, 12):
            for _ in range(4):
                saying = some_saying(chance, book, chance.randint(1, 3), 5, 3)
                for at in range(len(saying.turns)):
                    for stands in ["", some_text(chance, book, 3), some_text(chance, book, 6)]:
                        seen.append(self.check(saying, at, stands))
        self.assertGreater(min(seen.count(True), seen.count(False)), 100)

    def test_endless_lots(self):
        opened, closed = Lot(BRACKETS, loop("a")), Lot(BRACKETS, loop("b"))
        saying = Saying(single(BRACKETS, ""), (("every", "behind", opened), ("some", "behind", closed)))
        for many in (0, 1, 7, 200):
            self.assertEqual(saying.best(1, "a" * many), "b" * many)
            self.assertIsNone(saying.best(0, "a" * many))
        self.assertIsNone(saying.best(1, "b"))
        self.assertEqual(saying.best(0, "b"), "")
        self.assertEqual(saying.best(turn=0, stands="ba"), "")
        saying = Saying(single(BRACKETS, "a"), (("every", "ahead", opened),))
        self.assertEqual(saying.best(0, ""), "")
        self.assertEqual(saying.best(0, "a"), "a")
        self.assertEqual(saying.best(0, "bb"), "")
        saying = Saying(single(GROUP, "a" * 200), (("some", "ahead", whole(GROUP)),))
        self.assertEqual(saying.best(0, "b" * 200), "a" * 400)

    def test_none(self):
        nothing = Lot(GROUP, NOTHING)
        for hand in HANDS:
            for side in SIDES:
                self.assertIsNone(Saying(whole(GROUP), ((hand, side, nothing),)).best(0, "a"))
        self.assertIsNone(Saying(nothing, (("some", "ahead", whole(GROUP)),)).best(0, ""))
        self.assertIsNone(Saying(whole(GROUP), (("every", "ahead", whole(GROUP)),)).best(0, ""))

    def test_errors(self):
        lot = single(GROUP, "a")
        saying = Saying(lot, (("some", "ahead", lot), ("every", "behind", lot)))
        for thing in (-1, 2, 6, True, False, None, "0", (0,), 10 ** 59):
            with self.assertRaises(BadNumber) as caught:
                saying.best(thing, "c")
            self.assertIs(caught.exception.thing, thing)
        with self.assertRaises(BadNumber):
            Saying(lot, ()).best(0, "")
        for thing in ("c", "a" * 201, None, 5, ["a"], True):
            with self.assertRaises(BadText) as caught:
                saying.best(1, thing)
            self.assertIs(caught.exception.thing, thing)


class TurnedTest(unittest.TestCase):
    def test_as_they_come(self):
        chance = brute.made(5)
        for book in BOOKS + some_books(6, 12):
            for _ in range(3):
                saying = some_saying(chance, book, chance.randint(0, 4))
                turned = saying.turned()
                self.assertIs(type(turned), Saying)
                self.assertEqual(turned.goal, whole(book) - saying.goal)
                self.assertEqual([turn[1:] for turn in turned.turns], [turn[1:] for turn in saying.turns])
                for mine, yours in zip(saying.turns, turned.turns):
                    self.assertEqual({mine[0], yours[0]}, set(HANDS))
                for mine, yours in zip(saying.plan, turned.plan):
                    self.assertEqual(yours, whole(book) - mine)
                self.assertEqual(turned.starts, whole(book) - saying.starts)
                self.assertIs(turned.holds, not saying.holds)
                again = turned.turned()
                self.assertEqual((again.goal, again.turns, again.plan), (saying.goal, saying.turns, saying.plan))
                for at in range(len(saying.turns)):
                    for stands in ("", book.signs):
                        self.assertEqual(saying.best(at, stands), turned.best(at, stands))

    def test_too_many_states(self):
        # All but this one are told with one state more, from which everything else is told.
        long = single(FREE, "a" * 200) * single(FREE, "a" * 199)
        saying = Saying(long, ())
        with self.assertRaises(TooMany) as caught:
            saying.turned()
        self.assertEqual(caught.exception.word, "state")
        self.assertEqual(saying.plan, (long,))
        self.assertTrue(Saying(single(FREE, "a" * 200), ()).turned())


class ErrorsTest(unittest.TestCase):
    def bad(self, thing, place, goal=single(GROUP, "a")):
        with self.assertRaises(BadTurn) as caught:
            Saying(goal, thing)
        self.assertEqual(caught.exception.place, place)

    def test_wrong_turns(self):
        lot = single(GROUP, "a")
        right = ("some", "ahead", lot)
        for thing in (None, 5, "ab", "", {}, True, lot, (right,) * 7, (5,) * 7):
            self.bad(thing, -1)
        for thing in (None, 5, "abc", (), ("some", "ahead"), right + (lot,), ("any", "ahead", lot), ("some", "on", lot),
                      ("ahead", "some", lot), (lot, "ahead", "some"), ("some", "ahead", None), ("some", "ahead", "a"),
                      ("some", "ahead", lot.automaton), ("some", "ahead", GROUP), (None, "ahead", lot),
                      (True, "ahead", lot), ("some", 0, lot), (["some"], "ahead", lot), ("some", ["ahead"], lot),
                      ("so", "ahead", lot), ("some", "", lot), lot):
            self.bad((thing,), 0)
            self.bad([right, thing, thing], 1)
            self.bad((right, list(right), right, right, right, thing), 5)
        self.bad(right, 0)

    def test_unlike_books(self):
        other = Book("ab", (("ba", ""), ("ab", "")))
        lot, strange = single(GROUP, "a"), single(other, "a")
        turn = ("some", "ahead", lot)
        for goal, turns in ((lot, (("some", "ahead", strange),)), (strange, (turn,)),
                            (lot, (turn, turn, ("every", "behind", strange))),
                            (strange, (turn, ("every", "behind", strange)))):
            with self.assertRaises(Unlike) as caught:
                Saying(goal, turns)
            self.assertEqual(caught.exception.word, "book")
        self.bad((("some", "ahead", strange), 5), 1, lot)
        self.bad((turn, turn, ("some", "ahead")), 2, strange)
        same = single(Book("ab", [["ab", ""], ["ba", ""]]), "a")
        self.assertTrue(Saying(same, (turn,)))

    def test_too_many_states(self):
        long = single(GROUP, "a" * 200) * single(GROUP, "a" * 199)
        for side in SIDES:
            for hand in HANDS:
                with self.assertRaises(TooMany) as caught:
                    Saying(long, ((hand, side, single(GROUP, "b")),))
                self.assertEqual(caught.exception.word, "state")
        # A lot on the way is one of the plan, although the starts are few.
        turns = (("some", "ahead", single(GROUP, "a")), ("some", "ahead", single(GROUP, "b")))
        with self.assertRaises(TooMany):
            Saying(long, turns)
        self.assertEqual(Saying(long, turns[::-1]).starts, long)
        with self.assertRaises(Unlike):
            Saying(long, turns + (("some", "ahead", single(FREE, "a")),))


if __name__ == "__main__":
    unittest.main()
