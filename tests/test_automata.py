"""Points [1] to [4]: signs, texts, automata, least automata, and within."""

import unittest

import brute
from shrunkalike.automata import accepts, checked_automaton, least_automaton, within
from shrunkalike.errors import BadAutomaton, BadSigns, BadText, TooMany

ONE = (1, (), (0,))


def tail(size):
    """All texts whose sign so far from the end is an a."""
    edges = [(0, "a", 0), (0, "a", 1), (0, "b", 0)]
    edges += [(k, sign, k + 1) for k in range(1, size) for sign in "ab"]
    return (size + 1, tuple(sorted(edges)), (size,))


def chain(size, sign="a"):
    return (size + 1, tuple((k, sign, k + 1) for k in range(size)), (size,))


def lists(thing):
    return [lists(part) for part in thing] if isinstance(thing, tuple) else thing


class SignsTest(unittest.TestCase):
    def test_signs(self):
        for signs in ("a", "z", "ab", "az", "abcdefgh", "stuvwxyz"):
            self.assertEqual(checked_automaton(signs, ONE), ONE)

    def test_bad_signs(self):
        for thing in ("", "abcdefghi", "ba", "aa", "aab", "A", "a b", "a1", "{", "`", None, 3, ["a"], ("a", "b"), True,
                      b"ab"):
            for call in (lambda: checked_automaton(thing, 5), lambda: accepts(thing, 5, 5),
                         lambda: least_automaton(thing, 5), lambda: within(thing, 5, 5)):
                with self.assertRaises(BadSigns) as caught:
                    call()
                self.assertIs(caught.exception.thing, thing)

    def test_texts(self):
        loop = (1, ((0, "a", 0), (0, "b", 0)), (0,))
        self.assertIs(accepts("ab", loop, "ab" * 100), True)
        for thing in ("ab" * 100 + "a", "c", "abC", None, 5, ["a"], ("a",), True, b"a"):
            with self.assertRaises(BadText) as caught:
                accepts("ab", loop, thing)
            self.assertIs(caught.exception.thing, thing)

    def test_order_of_errors(self):
        with self.assertRaises(BadAutomaton):
            accepts("ab", 5, 5)
        with self.assertRaises(BadSigns):
            within("", 5, 5)
        with self.assertRaises(BadAutomaton) as caught:
            within("ab", (1, (), (1,)), 5)
        self.assertEqual(caught.exception.place, 0)
        with self.assertRaises(BadAutomaton) as caught:
            within("ab", ONE, 5)
        self.assertEqual(caught.exception.place, -1)


class FormTest(unittest.TestCase):
    def place(self, thing, signs="ab"):
        before = repr(thing)
        with self.assertRaises(BadAutomaton) as caught:
            checked_automaton(signs, thing)
        self.assertEqual(repr(thing), before)
        for call in (lambda: accepts(signs, thing, 5), lambda: least_automaton(signs, thing),
                     lambda: within(signs, thing, 5), lambda: within(signs, ONE, thing)):
            with self.assertRaises(BadAutomaton) as again:
                call()
            self.assertEqual(again.exception.place, caught.exception.place)
        return caught.exception.place

    def test_kept_as_tuples(self):
        automaton = (3, ((0, "", 1), (0, "a", 0), (0, "a", 2), (1, "b", 2)), (0, 2))
        self.assertEqual(checked_automaton("ab", automaton), automaton)
        self.assertEqual(checked_automaton("ab", lists(automaton)), automaton)
        mixed = [3, ((0, "", 1), [0, "a", 0], (0, "a", 2), [1, "b", 2]), [0, 2]]
        told = checked_automaton("ab", mixed)
        self.assertEqual(told, automaton)
        self.assertEqual(repr(told), repr(automaton))
        self.assertEqual(mixed[1][1], [0, "a", 0])
        self.assertEqual(checked_automaton(thing=automaton, signs="ab"), automaton)

    def test_sizes(self):
        self.assertEqual(checked_automaton("a", (40, (), (0, 39)))[0], 40)
        for many in (0, 41, -1, True, False, None, "3", 10 ** 59, (1,)):
            self.assertEqual(self.place((many, (), ())), -1)

    def test_no_triple(self):
        for thing in (None, 5, "abc", (), (1, ()), (1, (), (), ()), {}, True):
            self.assertEqual(self.place(thing), -1)
        for thing in ((1, "", ()), (1, (), ""), (1, None, ()), (1, (), 5), (1, {}, ())):
            self.assertEqual(self.place(thing), -1)

    def test_the_whole_goes_ahead(self):
        self.assertEqual(self.place((1, (5,), 5)), -1)
        self.assertEqual(self.place((0, (5,), ())), -1)
        self.assertEqual(self.place((1, 5, (5,))), -1)
        self.assertEqual(self.place((1, (5,) * 401, (5,))), -1)

    def test_edges(self):
        known = [(p, x, q) for p in range(40) for x in ["", "a", "b"] for q in range(5)]
        self.assertEqual(len(checked_automaton("ab", (40, tuple(known[:400]), ()))[1]), 400)
        self.assertEqual(self.place((40, tuple(known[:401]), ())), -1)
        good = (0, "a", 1)
        for bad in (None, 5, "abc", (), (0, "a"), (0, "a", 1, 1), (2, "b", 0), (1, "b", 2), (-1, "b", 0), (1, "b", -1),
                    (True, "b", 1), (1, "b", True), (1, "c", 1), (1, "ab", 1), (1, None, 1), (1, 5, 1), ("1", "b", 1),
                    (1, ["a"], 1), (1, "B", 1)):
            self.assertEqual(self.place((2, (good, bad, bad), (7,))), 1, bad)
            self.assertEqual(self.place((2, [list(good), bad], ())), 1, bad)
            self.assertEqual(self.place((2, (bad,), ())), 0, bad)

    def test_order_of_edges(self):
        self.assertEqual(self.place((2, ((0, "a", 1), (0, "a", 1)), ())), 1)
        self.assertEqual(self.place((2, ((0, "a", 1), (0, "a", 0)), (1, 0))), 1)
        self.assertEqual(self.place((2, ((0, "a", 1), (1, "", 0), (0, "b", 0)), ())), 2)
        self.assertEqual(self.place((2, ((0, "a", 0), (0, "", 1)), ())), 1)
        self.assertEqual(self.place((2, ((0, "b", 0), (0, "a", 1), (5, "a", 0)), ())), 1)

    def test_ends(self):
        edges = ((0, "a", 1), (1, "a", 0))
        self.assertEqual(self.place((2, edges, (0, 2))), 3)
        self.assertEqual(self.place((2, edges, (-1, 5))), 2)
        self.assertEqual(self.place((2, edges, (1, 0))), 3)
        self.assertEqual(self.place((2, edges, (0, 0))), 3)
        self.assertEqual(self.place((2, edges, (0, True))), 3)
        self.assertEqual(self.place((2, edges, (0, 1, 1))), 4)
        self.assertEqual(self.place((2, edges, [None])), 2)
        self.assertEqual(self.place((2, (), ["0"])), 0)
        self.assertEqual(self.place((2, ((0, "a", 5),), [None])), 0)


class AcceptsTest(unittest.TestCase):
    def test_against_a_walk(self):
        chance = brute.made(1)
        for _ in range(60):
            automaton = brute.some_automaton(chance, "abc", 6, 14)
            for text in brute.texts("abc", 4):
                self.assertIs(accepts("abc", automaton, text), brute.accepts(automaton, text))

    def test_lists_and_names(self):
        self.assertIs(accepts(signs="ab", automaton=[2, [[0, "", 1]], [1]], text=""), True)

    def test_no_ends(self):
        self.assertIs(accepts("a", (1, ((0, "a", 0),), ()), "a"), False)


class LeastTest(unittest.TestCase):
    def check(self, signs, automaton, longest):
        least = least_automaton(signs, automaton)
        many, edges, ends = least
        self.assertEqual(brute.language(signs, least, longest), brute.language(signs, automaton, longest))
        self.assertEqual(checked_automaton(signs, least) if many <= 40 else least, least)
        self.assertEqual(len({(p, x) for p, x, _ in edges}), len(edges))
        self.assertTrue(all(x for _, x, _ in edges))
        first = {}
        for text in brute.texts(signs, many):
            states = brute.walk(least, {0}, text)
            if states:
                first.setdefault(min(states), text)
            if len(first) == many:
                break
        self.assertEqual(list(first), list(range(many)))
        behind = {p: tuple(text for text in brute.texts(signs, many) if brute.walk(least, {p}, text) & set(ends))
                  for p in range(many)}
        if many > 1:
            self.assertTrue(all(behind.values()))
        self.assertEqual(len(set(behind.values())), many)
        return least

    def test_against_a_walk(self):
        chance = brute.made(2)
        checked = 0
        while checked < 60:
            automaton = brute.some_automaton(chance, "ab", 5, 9)
            least = least_automaton("ab", automaton)
            if least[0] <= 6:
                self.check("ab", automaton, 7)
                checked += 1

    def test_equal_exactly_if_the_texts_are(self):
        chance = brute.made(3)
        known = {}
        for _ in range(300):
            automaton = brute.some_automaton(chance, "ab", 3, 6)
            words = tuple(brute.language("ab", automaton, 8))
            least = least_automaton("ab", automaton)
            self.assertEqual(known.setdefault(words, least), least)
        self.assertEqual(len(set(known.values())), len(known))

    def test_nothing_is_accepted(self):
        nothing = (1, (), ())
        for automaton in (nothing, (3, ((0, "a", 1),), (2,)), (2, ((0, "", 0), (1, "a", 1)), (1,)), (40, (), ())):
            self.assertEqual(least_automaton("ab", automaton), nothing)

    def test_plain_ones(self):
        self.assertEqual(least_automaton("ab", ONE), ONE)
        self.assertEqual(least_automaton("ab", (2, ((0, "", 1), (1, "", 0)), (1,))), ONE)
        self.assertEqual(least_automaton("ab", [2, [[0, "a", 1], [0, "b", 1], [1, "a", 1], [1, "b", 1]], [0, 1]]),
                         (1, ((0, "a", 0), (0, "b", 0)), (0,)))
        self.assertEqual(least_automaton("ab", (3, ((0, "a", 2), (0, "b", 1)), (1, 2))),
                         (2, ((0, "a", 1), (0, "b", 1)), (1,)))

    def test_numbers_go_by_the_least_texts(self):
        automaton = (5, ((0, "a", 3), (0, "b", 1), (1, "a", 2), (3, "b", 4), (4, "b", 4)), (2, 4))
        self.assertEqual(least_automaton("ab", automaton),
                         (5, ((0, "a", 1), (0, "b", 2), (1, "b", 3), (2, "a", 4), (3, "b", 3)), (3, 4)))

    def test_many_states(self):
        self.assertEqual(least_automaton("ab", tail(8))[0], 256)
        for size in (9, 10, 12):
            with self.assertRaises(TooMany) as caught:
                least_automaton("ab", tail(size))
            self.assertEqual(caught.exception.word, "state")

    def rings(self, sizes):
        """The texts whose number of signs is a number of times one of the sizes."""
        edges, ends, many = [], [], 1
        for size in sizes:
            edges.append((0, "", many))
            edges += [(many + k, "a", many + (k + 1) % size) for k in range(size)]
            ends.append(many)
            many += size
        return (many, tuple(sorted(edges)), tuple(ends))

    def test_400_states_and_more(self):
        self.assertEqual(least_automaton("a", self.rings([16, 5, 5]))[0], 80)
        self.assertEqual(least_automaton("a", self.rings([16, 23]))[0], 368)
        automaton = self.rings([7, 8])
        self.assertEqual(least_automaton("a", automaton)[0], 56)
        ring = self.rings([5, 8, 9])
        self.assertEqual(least_automaton("a", ring)[0], 360)
        with self.assertRaises(TooMany):
            least_automaton("a", self.rings([5, 9, 11]))
        with self.assertRaises(TooMany):
            least_automaton("a", self.rings([3, 10, 17]))

    def test_just_400(self):
        many, edges, _ = tail(8)
        edges = [(p + 1, x, q + 1) for p, x, q in edges] + [(0, "c", 1)]
        ends, many = [many], many + 1
        for size in (11, 13):
            edges += [(0, "d", many)] + [(many + k, "a", many + (k + 1) % size) for k in range(size)]
            ends, many = ends + [many], many + size
        automaton = (many, tuple(sorted(edges)), tuple(ends))
        # The start, the texts of tail(8), and 11 times 13 numbers of signs.
        self.assertEqual(least_automaton("abcde", automaton)[0], 1 + 256 + 143)
        edges = tuple(sorted(edges + [(0, "e", many)]))
        with self.assertRaises(TooMany) as caught:
            least_automaton("abcde", (many + 1, edges, tuple(ends + [many])))
        self.assertEqual(caught.exception.word, "state")


class WithinTest(unittest.TestCase):
    def test_against_all_texts(self):
        chance = brute.made(4)
        seen = {True: 0, False: 0}
        for _ in range(300):
            one = brute.some_automaton(chance, "ab", 3, 6)
            other = brute.some_automaton(chance, "ab", 3, 6)
            told = within("ab", one, other)
            lacking = [t for t in brute.texts("ab", 8) if brute.accepts(one, t) and not brute.accepts(other, t)]
            self.assertEqual(bool(told), told.holds)
            self.assertIs(told.holds, not lacking)
            self.assertEqual(told.text, lacking[0] if lacking else None)
            seen[told.holds] += 1
        self.assertGreater(min(seen.values()), 50)

    def test_three_signs(self):
        chance = brute.made(5)
        for _ in range(80):
            one = brute.some_automaton(chance, "abc", 5, 12)
            other = brute.some_automaton(chance, "abc", 5, 18)
            lacking = [t for t in brute.texts("abc", 5) if brute.accepts(one, t) and not brute.accepts(other, t)]
            told = within(signs="abc", one=one, other=other)
            if lacking:
                self.assertEqual(told.text, lacking[0])
            elif told.text is not None:
                self.assertGreater(len(told.text), 5)

    def test_both_ways(self):
        everything = (1, ((0, "a", 0), (0, "b", 0)), (0,))
        nothing = (1, (), ())
        self.assertTrue(within("ab", nothing, everything))
        self.assertIsNone(within("ab", nothing, nothing).text)
        told = within("ab", everything, [1, [], []])
        self.assertFalse(told)
        self.assertEqual(told.text, "")
        self.assertEqual(within("ab", everything, (2, ((0, "a", 0), (0, "b", 1), (1, "b", 1)), (0, 1))).text, "ba")

    def test_long_texts(self):
        self.assertEqual(within("a", chain(39), (1, (), ())).text, "a" * 39)
        ring = (40, tuple((k, "a", (k + 1) % 40) for k in range(40)), (39,))
        other = (39, tuple((k, "a", (k + 1) % 39) for k in range(39)), tuple(range(38)))
        self.assertEqual(within("a", ring, other).text, "a" * 1559)
        self.assertEqual(1559 % 40, 39)
        self.assertEqual(1559 % 39, 38)


if __name__ == "__main__":
    unittest.main()
