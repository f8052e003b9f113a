"""Both ways in which quotients are found tell the same, whatever the bound with which they begin."""

import unittest
from unittest import mock

import brute
from lotkit import BOOKS, FREE, loop, some_books, some_lot
from shrunkalike import mirrors
from shrunkalike.automata import least_automaton
from shrunkalike.lots import Lot, single
from shrunkalike.quotients import completing, lacking, preparing
from shrunkalike.settling import least_rules

FAR = 10 ** 6


def full(chance, many, share):
    """An automaton with such a share of all edges, but one from each state with each sign at most."""
    edges = [(p, x, chance.randrange(many)) for p in range(many) for x in "ab" if chance.random() < share]
    return (many, tuple(edges), tuple(sorted(chance.sample(range(many), 3))))


def row(lot, automaton):
    """The least automaton of the meanings of the lot and then the texts of the automaton, over a book without rules."""
    many, edges, ends = lot.automaton
    found = list(edges) + [(end, "", many) for end in ends]
    found += [(p + many, x, q + many) for p, x, q in automaton[1]]
    return least_automaton("ab", (many + automaton[0], tuple(sorted(found)), tuple(k + many for k in automaton[2])))


class MirrorsTest(unittest.TestCase):
    def test_mirrored_automata(self):
        chance = brute.made(1)
        for book in BOOKS:
            automaton = least_automaton(book.signs, brute.some_automaton(chance, book.signs, 4, 6))
            told = mirrors.mirrored(book.signs, automaton, FAR)
            self.assertEqual({text[::-1] for text in brute.language(book.signs, automaton, 4)},
                             set(brute.language(book.signs, told, 4)))
            self.assertEqual(mirrors.mirrored(book.signs, told, FAR), automaton)
            self.assertIsNone(mirrors.mirrored(book.signs, automaton, 0))

    def test_straight_and_in_the_mirror(self):
        chance = brute.made(2)
        for book in BOOKS + some_books(16, 30):
            for _ in range(3):
                lot, goal = some_lot(chance, book).automaton, some_lot(chance, book).automaton
                rules = least_rules(book)
                for ahead in (True, False):
                    told = mirrors.straight_met(book.signs, rules, lot, goal, ahead, FAR)
                    self.assertEqual(mirrors.mirror_met(book.signs, rules, lot, goal, ahead, FAR), told)
                    self.assertEqual(mirrors.met(book, lot, goal, ahead), told)
                    self.assertIsNone(mirrors.straight_met(book.signs, rules, lot, goal, ahead, 0))
                    self.assertIsNone(mirrors.mirror_met(book.signs, rules, lot, goal, ahead, 0))

    def test_what_can_follow_is_not_kept_apart(self):
        # Where all that follows leads to the goal, one set of states is enough; there would be scores of them.
        for seed in (1, 8, 17, 24, 26, 33):
            chance = brute.made(seed)
            first = Lot(FREE, full(chance, 10, 1))
            goal = lacking(FREE, Lot(FREE, full(chance, 10, 0.85)).automaton)
            told = mirrors.straight_met("ab", (), first.automaton, goal, False, 2)
            self.assertEqual(told, loop("ab"))
            ahead = single(FREE, "ba") * first
            told = mirrors.straight_met("ab", (), ahead.automaton, row(single(FREE, "ba"), goal), False, 2)
            self.assertEqual(told, loop("ab"))

    def test_bounds_that_grow(self):
        chance = brute.made(3)
        for book in BOOKS:
            lot, goal = some_lot(chance, book).automaton, some_lot(chance, book).automaton
            told = (completing(book, lot, goal), preparing(book, lot, goal))
            for first, growth in ((1, 2), (2, 3), (5, 2)):
                with mock.patch.multiple(mirrors, FIRST_BOUND=first, GROWTH=growth):
                    self.assertEqual((completing(book, lot, goal), preparing(book, lot, goal)), told)


if __name__ == "__main__":
    unittest.main()
