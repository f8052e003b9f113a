"""The largest inputs that the document lets, for what is asked of lots and of single meanings."""

import unittest

import brute
from lotkit import NOTHING, bag, reads, rotations
from shrunkalike.books import Book, over
from shrunkalike.cancelling import cancels_ahead, cancels_behind, exchanges
from shrunkalike.conditions import solutions
from shrunkalike.errors import TooMany
from shrunkalike.lots import Lot, lies_within, single, whole
from shrunkalike.measures import measured
from shrunkalike.plainly import plainly
from shrunkalike.plays import Play
from shrunkalike.powers import power, powers
from shrunkalike.quotients import between, every_ahead, every_behind, some_ahead, some_behind
from shrunkalike.sayings import Saying
from shrunkalike.singles import divides, is_group, undoings, units
from shrunkalike.tables import table

SIGNS = "abcdefgh"
FREE = Book(SIGNS, ())
FREE_GROUP = Book(SIGNS, tuple((x + y, "") for x, y in ("ab", "ba", "cd", "dc", "ef", "fe", "gh", "hg")))
UNDO = dict(zip(SIGNS, "badcfehg"))


def undone(text):
    return "".join(UNDO[sign] for sign in text[::-1])


def some_text(seed, size=200):
    chance = brute.made(seed)
    return "".join(chance.choice(SIGNS) for _ in range(size))


def apart(seed, heads, size, rights):
    """A book of 64 rules whose left sides overlap nowhere: each begins with a head and goes on without."""
    chance = brute.made(seed)
    tails = [sign for sign in SIGNS if sign not in heads]
    found = {}
    while len(found) < 64:
        left = chance.choice(heads) + "".join(chance.choice(tails) for _ in range(size - 1))
        found[left] = chance.choice(rights)
    return Book(SIGNS, tuple(found.items()))


BOOKS = [FREE, FREE_GROUP, rotations(9), apart(1, "ab", 4, list(SIGNS)), apart(2, "abcd", 4, ["", "a", "e"]),
         apart(3, "abc", 3, [""] + list(SIGNS))]


class QuotientsTest(unittest.TestCase):
    def test_long_texts(self):
        for book in BOOKS[:5]:
            x, m, z = some_text(1), some_text(2, 100), some_text(3)
            goal = single(book, x) * single(book, m)
            self.assertIn(m, some_behind(single(book, x), goal))
            self.assertIn(m, every_behind(single(book, x), goal))
            goal = single(book, m) * single(book, z)
            self.assertIn(m, some_ahead(single(book, z), goal))
            self.assertIn(m, every_ahead(single(book, z), goal))
            x, m, z = some_text(1, 120), some_text(2, 15), some_text(3, 120)
            goal = single(book, x) * single(book, m) * single(book, z)
            self.assertIn(m, between(single(book, x), single(book, z), goal))
            self.assertEqual(some_behind(single(book, x), Lot(book, NOTHING)).least(), None)

    def test_lots_of_400_states(self):
        long = single(FREE_GROUP, "aceg" * 50) * single(FREE_GROUP, "eg" * 99 + "e")
        self.assertEqual(long.automaton[0], 400)
        self.assertEqual(some_behind(long, long), single(FREE_GROUP, ""))
        self.assertEqual(some_ahead(long, long), single(FREE_GROUP, ""))
        self.assertEqual(some_behind(single(FREE_GROUP, "aceg" * 50), long).automaton[0], 200)
        self.assertEqual(some_ahead(single(FREE_GROUP, "ge" * 99), long).listed(2), ("aceg" * 50 + "e",))
        with self.assertRaises(TooMany):
            some_ahead(single(FREE_GROUP, "eg"), long)
        ring = Lot(FREE_GROUP, (40, tuple(sorted([(k, x, (k + 1) % 40) for k in range(40) for x in "aceg"])), (39,)))
        self.assertEqual(measured(some_ahead(ring, ring)).holds, False)
        self.assertTrue(lies_within(every_behind(ring, ring) * ring, ring))
        self.assertEqual(between(whole(FREE_GROUP), whole(FREE_GROUP), long), whole(FREE_GROUP))

    def test_wholes(self):
        for book in BOOKS:
            everything = whole(book)
            self.assertEqual(some_behind(everything, everything), everything)
            self.assertEqual(every_ahead(everything, everything), everything)
            text = some_text(4, 60)
            goal = single(book, text)
            self.assertIn("", some_behind(everything, goal))
            self.assertIn("", some_ahead(everything, goal))
            self.assertIn(text, between(everything, everything, goal))
        goal = single(FREE_GROUP, some_text(4))
        self.assertEqual(between(whole(FREE_GROUP), goal, goal), whole(FREE_GROUP))

    def test_many_sets_of_states(self):
        # The one is met by far fewer sets of states when it is read straight, the other one in the mirror.
        book = apart(3, "abc", 3, [""] + list(SIGNS))
        goal = single(book, "a").again() | bag(book, ["", "ab"])
        last = bag(book, [some_text(2, 3), some_text(12, 3)])
        told = some_ahead(last, whole(book) - goal)
        self.assertEqual(every_ahead(last, goal), whole(book) - told)
        three = Book("abcd", (("aa", "b"), ("bb", "a"), ("ab", ""), ("ba", ""), ("cc", "d"), ("dd", "c"), ("cd", ""),
                              ("dc", "")))
        chance = brute.made(6)
        bags = [bag(three, ["".join(chance.choice("abcd") for _ in range(6)) for _ in range(60)]) for _ in range(3)]
        met = some_behind(bags[2], some_behind(bags[1], bags[0]))
        self.assertEqual(met, some_behind(bags[1] * bags[2], bags[0]))
        for end in met.listed(5):
            self.assertIsNotNone(((bags[1] * bags[2] * single(three, end)) & bags[0]).least())


class MeasuresTest(unittest.TestCase):
    def test_many_ends(self):
        level = bag(FREE, list(SIGNS))
        lot = level
        for _ in range(8):
            lot = lot * lot if lot.automaton[0] < 200 else lot
        self.assertEqual(measured(lot).number, 8 ** measured(lot).longest)
        self.assertEqual(lot.automaton[0], measured(lot).longest + 1)
        long = single(FREE, "a" * 200) * single(FREE, "b" * 198) * single(FREE, SIGNS[7]).again()
        x, y, z = measured(long).ring
        self.assertEqual((x + y + z).strip("h"), "a" * 200 + "b" * 198)


class PlainlyTest(unittest.TestCase):
    def check(self, lot, most):
        told = plainly(lot, most)
        self.assertIs(told.holds, False)
        self.assertEqual(len(told.meanings), most + 1)
        self.assertEqual(len(told.parting), most * (most + 1) // 2)
        for i, j, text in told.parting:
            ends = [over(lot.book, told.meanings[k] + text) for k in (i, j)]
            self.assertNotEqual(*[reads(lot.automaton, end) for end in ends])

    def test_long_lots(self):
        long = single(FREE_GROUP, "aceg" * 50) * single(FREE_GROUP, "eg" * 99 + "e")
        self.check(long, 40)
        self.check(single(FREE, "a" * 200), 40)
        for book in BOOKS:
            self.assertTrue(plainly(whole(book), 1))

    def test_40_states(self):
        for seed in range(3):
            chance = brute.made(seed)
            automaton = (40, tuple((p, x, chance.randrange(40)) for p in range(40) for x in SIGNS), (7, 9, 39))
            lot = Lot(FREE, automaton)
            many = lot.automaton[0]
            self.assertGreater(many, 35)
            self.assertEqual(plainly(lot, many).automaton, lot.automaton)
            self.check(lot, many - 1)

    def test_large_groups(self):
        steps = (1, -1, 3, -3, 5, -5, 7, -7)
        for size in (37, 40):
            edges = [(p, x, (p + step) % size) for p in range(size) for x, step in zip(SIGNS, steps)]
            lot = Lot(FREE_GROUP, (size, tuple(sorted(edges)), (0,)))
            self.assertGreater(lot.automaton[0], 250)
            self.assertEqual(plainly(lot, 40).automaton[0], size)
            self.check(lot, size - 1)


class ConditionsTest(unittest.TestCase):
    def test_8_conditions(self):
        for book in BOOKS[:5]:
            m = some_text(7, 10)
            conditions = []
            for k in range(8):
                ahead, behind = some_text(10 + k, 60), some_text(20 + k, 60)
                conditions.append((ahead, behind, ahead + m + behind, True))
            self.assertIn(m, solutions(book, conditions))
            unlike = [condition[:3] + (False,) for condition in conditions]
            self.assertEqual(solutions(book, conditions[:4] + unlike[:4]).least(), None)
        for book in BOOKS[:3]:
            conditions = [(some_text(k, 30), some_text(k + 9, 30), some_text(k, 30) + m + some_text(k + 9, 30), False)
                          for k in range(8)]
            self.assertEqual(solutions(book, conditions), whole(book) - single(book, m))
        text = some_text(7, 180)
        self.assertEqual(solutions(FREE_GROUP, ((text, undone(text), "a", True),) * 8).listed(2),
                         (over(FREE_GROUP, undone(text) + "a" + text),))


class SayingsTest(unittest.TestCase):
    def test_6_turns(self):
        for book in BOOKS:
            many, size = (6, 3) if book in BOOKS[:3] else (3, 1)
            lots = [bag(book, [some_text(seed, size) for seed in (k, k + 10)]) for k in range(many)]
            for hands in (("some", "every"), ("every", "some"), ("some", "some")):
                turns = [(hands[k % 2], ("ahead", "behind")[k // 2 % 2], lot) for k, lot in enumerate(lots)]
                saying = Saying(single(book, "a").again() | bag(book, ["", "ab"]), turns)
                self.assertEqual(saying.turned().starts, whole(book) - saying.starts)
                play = Play(saying, some_text(9, 100))
                while not play.over:
                    winner, hand = play.winner, turns[play.turn][0]
                    best = saying.best(play.turn, play.stands)
                    self.assertIs(best is not None, winner == hand)
                    play.pick(lots[play.turn].least() if best is None else best)

    def test_endless_lots(self):
        rows = [single(FREE_GROUP, x).again() for x in SIGNS]
        goal = Lot(FREE_GROUP, (1, tuple((0, x, 0) for x in "aceg"), (0,)))
        turns = [(("some", "every")[k % 2], ("ahead", "behind")[k % 2], rows[k]) for k in range(6)]
        saying = Saying(goal, turns)
        for at, (hand, side, lot) in enumerate(turns):
            wanted = some_behind(lot, saying.plan[at + 1]) if hand == "some" else every_ahead(lot, saying.plan[at + 1])
            self.assertEqual(saying.plan[at], wanted)
        self.assertEqual(saying.turned().turned().plan, saying.plan)


class SinglesTest(unittest.TestCase):
    def test_all_books(self):
        for book in BOOKS:
            text, other = some_text(11), some_text(12)
            ahead, behind = undoings(book, text)
            group = book in (FREE_GROUP, rotations(9))
            self.assertIs(is_group(book), group)
            self.assertEqual(units(book), whole(book) if group else single(book, ""))
            behind_one, ahead_one, around = divides(book, text, other)
            self.assertIs(ahead.least() is not None, group)
            self.assertIs(behind_one is not None, group)
            self.assertIs(ahead_one is not None, group)
            self.assertIs(around is not None, group)
        self.assertEqual(undoings(FREE_GROUP, text), (single(FREE_GROUP, undone(text)),) * 2)
        both = divides(FREE, "ab" * 50, "c" * 50 + "ab" * 75)
        self.assertEqual(both, (None, "c" * 50 + "ab" * 25, ("c" * 50, "ab" * 25)))

    def test_cancels(self):
        for book in BOOKS[:3]:
            self.assertTrue(cancels_ahead(book))
            self.assertTrue(cancels_behind(book))
        for book in BOOKS[3:]:
            for ahead, told in ((True, cancels_ahead(book)), (False, cancels_behind(book))):
                self.assertFalse(told)
                ends = [book(told.sign + end if ahead else end + told.sign) for end in told.pair]
                self.assertEqual(ends[0], ends[1])
                self.assertEqual(told.pair, tuple(sorted(told.pair, key=brute.order)))
        self.assertEqual([exchanges(book).holds for book in BOOKS], [False, False, True, False, False, False])

    def test_powers(self):
        for book in BOOKS[:2] + BOOKS[3:]:
            text = some_text(13)
            self.assertIsNone(powers(book, text))
            self.assertEqual(power(book, text, ""), 0)
            self.assertEqual(power(book, text, text), 1)
            self.assertIsNone(power(book, text, some_text(14)))
        book = rotations(9)
        index, period = powers(book, some_text(13))
        self.assertEqual((index, 9 % period), (0, 0))
        self.assertEqual(power(FREE_GROUP, "b" * 90 + "c" + "a" * 90, "b" * 90 + "c" * 20 + "a" * 90), 20)
        self.assertEqual(power(FREE_GROUP, "b" * 90 + "c" * 19 + "a" * 90, "b" * 90 + "c" * 19 + "a" * 90), 1)

    def test_tables(self):
        self.assertEqual(len(table(rotations(9)).ends), 9)
        for book in BOOKS[3:]:
            x, y, z = table(book).ring
            self.assertEqual(brute.steps(book.rules, x + y * 30 + z), [])


if __name__ == "__main__":
    unittest.main()
