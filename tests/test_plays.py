"""Point [22]: plays of sayings."""

import unittest

import brute
from lotkit import BOOKS, BRACKETS, FREE, GROUP, NOTHING, bag, loop, some_bag, some_lot, some_text
from shrunkalike.errors import BadText, NoDeed, NotInLot, NoTurn
from shrunkalike.lots import Lot, single, whole
from shrunkalike.plays import Play
from shrunkalike.sayings import Saying

LOT = bag(GROUP, ["a", "b", "aa"])


def told(play):
    return (play.saying, play.picks, play.start, play.stands, play.turn, play.winner, play.over)


class PlayTest(unittest.TestCase):
    def test_by_hand(self):
        book = FREE
        lot = bag(book, ["a", "ab", "b"])
        saying = Saying(single(book, "abbab"), (("some", "ahead", lot), ("every", "behind", lot), ("some", "behind", lot)))
        play = Play(saying, "b")
        self.assertIs(play.saying, saying)
        self.assertEqual(told(play)[1:], ((), "b", "b", 0, "every", False))
        self.assertEqual(play.pick("ab"), "abb")
        self.assertEqual(told(play)[1:], (("ab",), "b", "abb", 1, "every", False))
        self.assertEqual(play.pick("a"), "abba")
        self.assertEqual(told(play)[1:], (("ab", "a"), "b", "abba", 2, "some", False))
        self.assertEqual(play.pick("b"), "abbab")
        self.assertEqual(told(play)[1:], (("ab", "a", "b"), "b", "abbab", 3, "some", True))
        self.assertEqual(play.undo(), "abba")
        self.assertEqual(play.pick(text="a"), "abbaa")
        self.assertEqual(told(play)[1:], (("ab", "a", "a"), "b", "abbaa", 3, "every", True))

    def test_as_they_come(self):
        chance = brute.made(1)
        for book in BOOKS:
            for many in range(7):
                turns = [(chance.choice(("some", "every")), chance.choice(("ahead", "behind")),
                          some_bag(chance, book, 2, 2) | single(book, some_text(chance, book, 2))) for _ in range(many)]
                saying = Saying(some_lot(chance, book), turns)
                start = some_text(chance, book, 4)
                play = Play(saying, start)
                stood, picks = [book(start)], []
                for at, (_, side, lot) in enumerate(turns):
                    self.check(play, saying, stood, picks, False)
                    pick = chance.choice(lot.listed(9))
                    aim = book(pick + stood[-1] if side == "ahead" else stood[-1] + pick)
                    self.assertEqual(play.pick(pick), aim)
                    stood.append(aim)
                    picks.append(pick)
                self.check(play, saying, stood, picks, True)
                with self.assertRaises(NoTurn):
                    play.pick("")
                while picks:
                    stood.pop()
                    picks.pop()
                    self.assertEqual(play.undo(), stood[-1])
                    self.check(play, saying, stood, picks, False)
                with self.assertRaises(NoDeed):
                    play.undo()
                self.check(play, saying, stood, picks, not turns)

    def check(self, play, saying, stood, picks, over):
        wins = brute.accepts(saying.plan[len(picks)].automaton, stood[-1])
        self.assertEqual(told(play), (saying, tuple(picks), stood[0], stood[-1], len(picks),
                                      "some" if wins else "every", over))
        self.assertIs(type(play.picks), tuple)
        self.assertIs(play.over, over)

    def test_the_best_picks_keep_the_winner(self):
        chance = brute.made(2)
        for book in BOOKS:
            for _ in range(4):
                turns = [(chance.choice(("some", "every")), chance.choice(("ahead", "behind")),
                          some_bag(chance, book, 3, 3)) for _ in range(4)]
                saying = Saying(some_lot(chance, book), turns)
                play = Play(saying, some_text(chance, book, 3))
                while not play.over:
                    winner = play.winner
                    best = saying.best(play.turn, play.stands)
                    hand, _, lot = turns[play.turn]
                    self.assertIs(best is not None, winner == hand)
                    if lot.least() is None:
                        self.assertNotEqual(winner, hand)
                        break
                    play.pick(lot.least() if best is None else best)
                    self.assertEqual(play.winner, winner)

    def test_picks_and_starts_that_are_no_ends(self):
        saying = Saying(single(GROUP, "aa"), (("some", "behind", LOT), ("some", "ahead", LOT)))
        play = Play(saying=saying, start="abbab")
        self.assertEqual((play.start, play.stands), ("b", "b"))
        self.assertEqual(play.pick("baaba"), "")
        self.assertEqual(play.picks, ("a",))
        self.assertEqual(play.pick("ab" * 99 + "aa"), "aa")
        self.assertEqual(play.picks, ("a", "aa"))

    def test_not_in_lot(self):
        saying = Saying(single(GROUP, ""), (("some", "behind", LOT), ("every", "behind", single(GROUP, "b"))))
        play = Play(saying, "a")
        for text, end in (("", ""), ("ab", ""), ("bbb", "bbb"), ("abbb", "bb"), ("aabaa", "aaa")):
            before = told(play)
            with self.assertRaises(NotInLot) as caught:
                play.pick(text)
            self.assertEqual(caught.exception.text, end)
            self.assertEqual(told(play), before)
        play.pick("b")
        before = told(play)
        with self.assertRaises(NotInLot) as caught:
            play.pick("a")
        self.assertEqual(caught.exception.text, "a")
        self.assertEqual(told(play), before)
        with self.assertRaises(NotInLot):
            Play(Saying(whole(GROUP), (("every", "ahead", Lot(GROUP, NOTHING)),)), "").pick("")

    def test_what_is_no_text(self):
        saying = Saying(single(GROUP, ""), (("some", "behind", single(GROUP, "a")),))
        play = Play(saying, "b")
        before = told(play)
        for thing in ("c", "a" * 201, None, 5, ["a"], True, ("a",)):
            with self.assertRaises(BadText) as caught:
                Play(saying, thing)
            self.assertIs(caught.exception.thing, thing)
            with self.assertRaises(BadText) as caught:
                play.pick(thing)
            self.assertIs(caught.exception.thing, thing)
            self.assertEqual(told(play), before)

    def test_all_turns_have_been_made(self):
        saying = Saying(single(GROUP, ""), (("some", "behind", single(GROUP, "a")),))
        play = Play(saying, "b")
        play.pick("a")
        before = told(play)
        for thing in ("a", "b", "c", None):
            with self.assertRaises(NoTurn):
                play.pick(thing)
            self.assertEqual(told(play), before)
        self.assertEqual((play.turn, play.over, play.winner), (1, True, "some"))
        self.assertEqual(play.undo(), "b")
        self.assertEqual(play.pick("a"), "")
        play = Play(Saying(single(GROUP, ""), ()), "ab")
        self.assertEqual(told(play)[1:], ((), "", "", 0, "some", True))
        with self.assertRaises(NoTurn):
            play.pick("a")

    def test_undo(self):
        saying = Saying(single(GROUP, ""), (("some", "behind", LOT),) * 6)
        play = Play(saying, "bbb")
        before = told(play)
        with self.assertRaises(NoDeed) as caught:
            play.undo()
        self.assertEqual(caught.exception.word, "undo")
        self.assertEqual(told(play), before)
        stood = [play.pick("aa") for _ in range(6)]
        self.assertEqual([play.undo() for _ in range(6)], stood[-2::-1] + ["bbb"])
        self.assertEqual(told(play), before)

    def test_two_plays_of_one_saying(self):
        saying = Saying(single(GROUP, ""), (("some", "behind", LOT), ("every", "ahead", LOT)))
        one, other = Play(saying, "a"), Play(saying, "b")
        one.pick("b")
        kept = one.picks
        self.assertEqual((other.picks, other.stands, one.stands), ((), "b", ""))
        other.pick("a")
        other.pick("a")
        self.assertEqual((one.picks, one.stands, other.picks, other.stands), (("b",), "", ("a", "a"), "a"))
        one.pick("aa")
        self.assertEqual(kept, ("b",))
        one.undo()
        self.assertEqual((one.picks, other.picks), (("b",), ("a", "a")))

    def test_what_stands_may_be_long(self):
        saying = Saying(whole(FREE), (("some", "ahead", Lot(FREE, loop("a"))),) * 6)
        play = Play(saying, "b" * 200)
        for at in range(6):
            self.assertEqual(play.pick("a" * 200), "a" * 200 * (at + 1) + "b" * 200)
        self.assertEqual(play.winner, "some")

    def test_hands_that_cannot_pick(self):
        nothing = Lot(BRACKETS, NOTHING)
        play = Play(Saying(whole(BRACKETS), (("some", "ahead", nothing),)), "a")
        self.assertEqual((play.winner, play.over), ("every", False))
        play = Play(Saying(nothing, (("every", "ahead", nothing),)), "a")
        self.assertEqual((play.winner, play.over), ("some", False))


if __name__ == "__main__":
    unittest.main()
