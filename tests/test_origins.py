"""Points [12] and [13]: origins, and whether all ends are texts of a goal."""

import unittest

import brute
from shrunkalike.automata import accepts
from shrunkalike.books import Book
from shrunkalike.closing import closed_edges
from shrunkalike.errors import BadAutomaton, NoEdge, TooMany
from shrunkalike.origins import all_end, origin
from shrunkalike.shrinking import ends, played


def doubling(size):
    """A book in which the last sign comes from two to the power size times the first one."""
    signs = "abcdefgh"[:size + 1]
    return Book(signs, tuple((x + x, y) for x, y in zip(signs, signs[1:])))


def chain(text):
    return (len(text) + 1, tuple((k, x, k + 1) for k, x in enumerate(text)), (len(text),))


class OriginTest(unittest.TestCase):
    def check(self, book, automaton):
        known = brute.origins(book.signs, book.rules, automaton)
        for edge in closed_edges(book, automaton):
            text, run = origin(book, automaton, edge)
            self.assertEqual(text, known[edge])
            self.assertIn(edge[2], brute.walk(automaton, {edge[0]}, text))
            texts = played(book, text, run)
            self.assertEqual(texts[-1], edge[1])
            self.assertIsInstance(run, tuple)
            self.assertTrue(all(isinstance(step, tuple) for step in run))
        return known

    def test_least_with_runs(self):
        chance = brute.made(1)
        for _ in range(60):
            book = Book("abc", brute.some_rules(chance, "abc", 6))
            self.check(book, brute.some_automaton(chance, "abc", 3, 7))

    def test_against_all_short_texts(self):
        chance = brute.made(2)
        for _ in range(25):
            book = Book("ab", brute.some_rules(chance, "ab", 5))
            automaton = brute.some_automaton(chance, "ab", 3, 6)
            known = {}
            for p, text, q in brute.ways(automaton, 6, "ab"):
                for x in brute.shrinks(book.rules, text):
                    if len(x) < 2:
                        known.setdefault((p, x, q), text)
                        if brute.order(text) < brute.order(known[(p, x, q)]):
                            known[(p, x, q)] = text
            for edge, text in known.items():
                self.assertEqual(origin(book, automaton, edge)[0], text)

    def test_forms(self):
        book = Book("ab", (("ab", ""),))
        automaton = [3, [[0, "", 1], [0, "a", 0], [1, "b", 2]], [2]]
        self.assertEqual(origin(book, automaton, [0, "", 2]), ("ab", ((0, 0),)))
        self.assertEqual(origin(book=book, automaton=automaton, edge=(0, "a", 1)), ("a", ()))
        self.assertEqual(origin(book, automaton, (0, "", 1)), ("", ()))
        self.assertEqual(origin(book, automaton, (2, "", 2)), ("", ()))

    def test_no_edge(self):
        book = Book("ab", (("ab", ""),))
        automaton = (2, ((0, "a", 0), (0, "b", 1)), (1,))
        for edge in ((1, "", 0), (1, "b", 1), (1, "a", 1), [1, "a", 1], (0, "c", 0), (0, "ab", 1), (2, "", 2),
                     (-1, "", -1), (False, "", 0), (0, "", True), (0, None, 0), (0, 5, 0)):
            with self.assertRaises(NoEdge) as caught:
                origin(book, automaton, edge)
            self.assertIs(caught.exception.edge, edge)
        with self.assertRaises(BadAutomaton) as caught:
            origin(book, (2, ((0, "a", 0), (0, "c", 1)), (1,)), (0, "c", 0))
        self.assertEqual(caught.exception.place, 1)

    def test_200_signs(self):
        loop = (1, ((0, "a", 0),), (0,))
        text, run = origin(doubling(7), loop, (0, "h", 0))
        self.assertEqual(text, "a" * 128)
        self.assertEqual(len(run), 127)
        self.assertEqual(played(doubling(7), text, run)[-1], "h")
        ring = (25, tuple((k, "a", (k + 1) % 25) for k in range(25)), (0,))
        self.assertEqual(origin(Book("abc", (("aaaa", "b"), ("bb", "c"))), ring, (20, "c", 3))[0], "a" * 8)

    def test_rules_that_eat_one_another(self):
        rules = (("bccb", "a"), ("ccdc", "b"), ("acad", ""), ("daba", "d"), ("ca", "c"))
        self.check(Book("abcd", rules), (3, ((0, "b", 1), (0, "c", 2), (1, "a", 0), (1, "d", 2), (2, "b", 1),
                                             (2, "c", 1), (2, "d", 0)), ()))

    def test_long_origins(self):
        rules = (("aaaa", "b"), ("bbbb", "c"), ("cccd", "h"))
        book = Book("abcdh", rules)
        loop = (2, ((0, "a", 0), (0, "d", 1)), (1,))
        text, run = origin(book, loop, (0, "h", 1))
        self.assertEqual((text, len(run)), ("a" * 48 + "d", 16))
        self.assertEqual(played(book, text, run)[-1], "h")
        for rest, fits in ((7, True), (8, False)):
            # 192 a's and a rest that is read on a chain behind them.
            rules = (("aaaa", "b"), ("bbbb", "c"), ("cccc", "d"), ("dddg", "h"), ("gf", "g"))
            book = Book("abcdfgh", rules)
            edges = [(0, "a", 0), (0, "g", 1)] + [(k, "f", k + 1) for k in range(1, rest + 1)]
            automaton = (rest + 2, tuple(sorted(edges)), ())
            edge = (0, "h", rest + 1)
            self.assertIn(edge, closed_edges(book, automaton))
            if fits:
                text, run = origin(book, automaton, edge)
                self.assertEqual(text, "a" * 192 + "g" + "f" * rest)
                self.assertEqual(len(text), 200)
                self.assertEqual(played(book, text, run)[-1], "h")
            else:
                with self.assertRaises(TooMany) as caught:
                    origin(book, automaton, edge)
                self.assertEqual(caught.exception.word, "sign")

    def test_far_too_long(self):
        rules = tuple((x * 4, y) for x, y in zip("abcdefg", "bcdefgh"))
        book = Book("abcdefgh", rules)
        with self.assertRaises(TooMany):
            origin(book, (1, ((0, "a", 0),), ()), (0, "h", 0))
        self.assertEqual(origin(book, (1, ((0, "a", 0),), ()), (0, "d", 0))[0], "a" * 64)


class AllEndTest(unittest.TestCase):
    def test_against_short_texts(self):
        chance = brute.made(3)
        seen = {True: 0, False: 0}
        for _ in range(150):
            book = Book("ab", brute.some_rules(chance, "ab", 4))
            automaton = brute.some_automaton(chance, "ab", 3, 6)
            goal = brute.some_automaton(chance, "ab", 3, 10)
            told = all_end(book, automaton, goal)
            self.assertIs(bool(told), told.holds)
            lacking = {}
            for text in brute.language("ab", automaton, 7):
                for end in brute.ends(book.rules, text):
                    if not brute.accepts(goal, end):
                        lacking.setdefault(end, text)
            seen[told.holds] += 1
            if told.holds:
                self.assertEqual((told.end, told.text, lacking), (None, None, {}))
                continue
            self.assertIn(told.end, ends(book, told.text))
            self.assertTrue(accepts("ab", automaton, told.text))
            self.assertFalse(accepts("ab", goal, told.end))
            for end, text in lacking.items():
                self.assertLessEqual(brute.order(told.end), brute.order(end))
            if told.end in lacking:
                self.assertEqual(told.text, lacking[told.end])
            else:
                self.assertGreater(len(told.text), 7)
        self.assertGreater(min(seen.values()), 30)

    def test_plain_ones(self):
        book = Book("ab", (("ab", ""), ("ba", "")))
        everything = (1, ((0, "a", 0), (0, "b", 0)), (0,))
        told = all_end(book, everything, everything)
        self.assertTrue(told)
        told = all_end(book=book, automaton=everything, goal=(1, ((0, "a", 0),), (0,)))
        self.assertEqual((told.holds, told.end, told.text), (False, "b", "b"))
        told = all_end(book, (2, ((0, "a", 0), (0, "b", 1), (1, "b", 1)), (1,)), (2, ((0, "a", 0), (0, "b", 1)), (0, 1)))
        self.assertEqual((told.end, told.text), ("bb", "bb"))
        told = all_end(book, [3, [[0, "a", 1], [1, "b", 2]], [2]], [1, [], []])
        self.assertEqual((told.end, told.text), ("", "ab"))
        self.assertTrue(all_end(book, (1, (), ()), (1, (), ())))

    def test_an_end_that_is_not_the_whole_text(self):
        book = Book("abc", (("ab", ""), ("c", "")))
        told = all_end(book, chain("cacabcbacb"), (1, (), ()))
        self.assertEqual((told.end, told.text), ("", "cacabcbacb"))

    def test_an_end_of_200_signs_and_more(self):
        for many, fits in ((199, True), (200, True), (201, False)):
            # So many a's are read by a ring of 13 edges; a ring of 17 edges does not end there alone.
            automaton = (13, tuple((k, "a", (k + 1) % 13) for k in range(13)), (many % 13,))
            ends_ = tuple(k for k in range(17) if k != many % 17)
            goal = (17, tuple((k, "a", (k + 1) % 17) for k in range(17)), ends_)
            if fits:
                told = all_end(Book("ab", ()), automaton, goal)
                self.assertEqual((told.end, told.text), ("a" * many, "a" * many))
            else:
                with self.assertRaises(TooMany) as caught:
                    all_end(Book("ab", ()), automaton, goal)
                self.assertEqual(caught.exception.word, "sign")

    def test_a_short_end_of_a_long_text(self):
        for size, fits in ((2, True), (3, True), (4, False)):
            rules = tuple((x * 4, y) for x, y in zip("abcd"[:size], "bcde"))
            book = Book("abcdefgh", rules)
            loop = (2, ((0, "a", 0), (0, "h", 1)), (1,))
            goal = (2, tuple((0, x, 0) for x in "abcd"[:size]) + ((0, "h", 1),), (1,))
            if fits:
                told = all_end(book, loop, goal)
                self.assertEqual((told.end, told.text), ("abcde"[size] + "h", "a" * 4 ** size + "h"))
            else:
                with self.assertRaises(TooMany):
                    all_end(book, loop, goal)

    def test_wrong_automata(self):
        book = Book("ab", ())
        for automaton, goal, place in ((5, 6, -1), ((1, (), (1,)), 5, 0), ((1, (), ()), 5, -1),
                                       ((1, (), ()), (1, ((0, "c", 0),), ()), 0)):
            with self.assertRaises(BadAutomaton) as caught:
                all_end(book, automaton, goal)
            self.assertEqual(caught.exception.place, place)


if __name__ == "__main__":
    unittest.main()
