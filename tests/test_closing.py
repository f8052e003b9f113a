"""Points [10] and [11]: closed edges, what descends from automata, and papers."""

import unittest

import brute
from shrunkalike.automata import least_automaton
from shrunkalike.books import Book
from shrunkalike.closing import closed_edges, closing, descends, judge_closing
from shrunkalike.errors import BadAutomaton, TooMany

RULES = (("ab", "c"), ("c", ""), ("acb", "b"), ("bbab", "a"))
BOOK = Book("abc", RULES)
AUTOMATON = (4, ((0, "", 1), (0, "a", 1), (1, "b", 2), (2, "a", 2), (2, "b", 3), (3, "c", 0)), (0, 3))


def lists(thing):
    return [lists(part) for part in thing] if isinstance(thing, tuple) else thing


def some(seed, many, most_states=3, most_edges=7, most_rules=5):
    chance = brute.made(seed)
    return [(Book("abc", brute.some_rules(chance, "abc", most_rules)),
             brute.some_automaton(chance, "abc", most_states, most_edges)) for _ in range(many)]


class ClosedEdgesTest(unittest.TestCase):
    def test_against_the_words(self):
        for book, automaton in some(1, 120):
            told = closed_edges(book, automaton)
            self.assertEqual(told, tuple(brute.closed(book.signs, book.rules, automaton)))

    def test_against_short_texts_of_ways(self):
        for book, automaton in some(2, 40):
            told = closed_edges(book, automaton)
            known = {(p, x, q) for p, text, q in brute.ways(automaton, 4, "abc")
                     for x in brute.shrinks(book.rules, text) if len(x) < 2}
            self.assertTrue(known <= set(told))
            texts = brute.origins("abc", book.rules, automaton)
            for p, x, q in told:
                # Each closed edge comes from a text; a short one has been found above.
                self.assertTrue((p, x, q) in known or len(texts[(p, x, q)]) > 4)

    def test_plain_ones(self):
        book = Book("ab", (("ab", ""), ("ba", "a")))
        self.assertEqual(closed_edges(book, (1, (), ())), ((0, "", 0),))
        self.assertEqual(closed_edges(book, (2, ((0, "", 1),), ())), ((0, "", 0), (0, "", 1), (1, "", 1)))
        self.assertEqual(closed_edges(book, [3, [[0, "a", 1], [1, "b", 2]], [2]]),
                         ((0, "", 0), (0, "", 2), (0, "a", 1), (1, "", 1), (1, "b", 2), (2, "", 2)))
        self.assertEqual(closed_edges(book=Book("ab", ()), automaton=(2, ((1, "b", 0),), (1,))),
                         ((0, "", 0), (1, "", 1), (1, "b", 0)))

    def test_what_vanishes_beside(self):
        book = Book("abc", (("abcb", "c"), ("b", "")))
        automaton = (8, ((0, "b", 1), (1, "a", 2), (2, "b", 3), (3, "", 4), (4, "c", 5), (5, "b", 6), (6, "b", 7)), ())
        told = closed_edges(book, automaton)
        for edge in ((0, "c", 7), (1, "c", 6), (1, "c", 7), (0, "", 1), (0, "a", 4), (3, "c", 7), (4, "c", 7)):
            self.assertIn(edge, told)
        self.assertNotIn((0, "c", 4), told)
        self.assertEqual(list(told), brute.closed("abc", book.rules, automaton))


class DescendsTest(unittest.TestCase):
    def test_against_closed_edges(self):
        for book, automaton in some(3, 100):
            told = descends(book, automaton)
            walked = (automaton[0], closed_edges(book, automaton), automaton[2])
            self.assertEqual(told, least_automaton("abc", walked))

    def test_against_shrinking(self):
        for book, automaton in some(4, 60):
            told = descends(book, automaton)
            known = {x for text in brute.language("abc", automaton, 5) for x in brute.shrinks(book.rules, text)}
            walked = (automaton[0], closed_edges(book, automaton), automaton[2])
            for text in brute.texts("abc", 4):
                self.assertEqual(brute.accepts(told, text), brute.accepts(walked, text))
                if text in known:
                    self.assertTrue(brute.accepts(told, text))

    def test_exactly_the_texts(self):
        # No text grows, so all that shrinks to a short text is met among these chains.
        chance = brute.made(5)
        for _ in range(60):
            book = Book("ab", brute.some_rules(chance, "ab", 5))
            text = "".join(chance.choice("ab") for _ in range(7))
            automaton = (8, tuple((k, x, k + 1) for k, x in enumerate(text)), (7,))
            told = descends(book, automaton)
            self.assertEqual(brute.language("ab", told, 7), brute.shrinks(book.rules, text))

    def test_nothing(self):
        self.assertEqual(descends(BOOK, (3, ((0, "a", 1),), ())), (1, (), ()))
        self.assertEqual(descends(BOOK, (3, ((1, "a", 2),), (2,))), (1, (), ()))

    def test_too_many(self):
        edges = [(0, "a", 0), (0, "a", 1), (0, "b", 0)] + [(k, x, k + 1) for k in range(1, 12) for x in "ab"]
        with self.assertRaises(TooMany) as caught:
            descends(Book("ab", ()), (13, tuple(edges), (12,)))
        self.assertEqual(caught.exception.word, "state")
        self.assertEqual(descends(Book("ab", (("a", ""), ("b", ""))), (13, tuple(edges), (12,))),
                         (1, ((0, "a", 0), (0, "b", 0)), (0,)))


class ClosingTest(unittest.TestCase):
    def test_shows_each_closed_edge_once(self):
        for book, automaton in some(6, 120) + [(BOOK, AUTOMATON)]:
            paper = closing(book, automaton)
            self.assertEqual(sorted(entry[:3] for entry in paper), list(closed_edges(book, automaton)))
            self.assertEqual(judge_closing(book, automaton, paper), -1)
            self.assertEqual(judge_closing(book, lists(automaton), lists(paper)), -1)
            self.assertIsInstance(paper, tuple)
            self.assertTrue(all(isinstance(entry, tuple) and isinstance(entry[3], tuple) for entry in paper))

    def test_an_entry_that_is_left_out(self):
        paper = closing(BOOK, AUTOMATON)
        for at in range(len(paper)):
            self.assertNotEqual(judge_closing(BOOK, AUTOMATON, paper[:at] + paper[at + 1:]), -1)
        for size in range(len(paper)):
            # Each beginning is right, but not closed.
            self.assertEqual(judge_closing(BOOK, AUTOMATON, paper[:size]), size)

    def test_an_entry_twice(self):
        paper = closing(BOOK, AUTOMATON)
        for at in range(len(paper)):
            self.assertEqual(judge_closing(BOOK, AUTOMATON, paper + (paper[at],)), -1)

    def test_no_paper(self):
        for thing in (None, 5, "ab", {}, True):
            self.assertEqual(judge_closing(BOOK, AUTOMATON, thing), 0)
        self.assertEqual(judge_closing(BOOK, AUTOMATON, ()), 0)
        self.assertEqual(judge_closing(book=BOOK, automaton=AUTOMATON, paper=()), 0)


def naive_right(book, automaton, paper, at):
    """Whether the entry is right; the form of the entry and of its reason is."""
    p, x, q, why = paper[at]
    if why[0] == "stay":
        return p == q and x == ""
    if why[0] == "edge":
        return (p, x, q) in automaton[1]
    refs = why[1:] if why[0] == "join" else why[2]
    if any(not 0 <= k < at for k in refs):
        return False
    edges = [paper[k] for k in refs]
    ends = [p] + [edge[2] for edge in edges]
    if [edge[0] for edge in edges] != ends[:-1] or ends[-1] != q:
        return False
    word = "".join(edge[1] for edge in edges)
    if why[0] == "join":
        return len(word) < 2 and word == x
    return 0 <= why[1] < len(book) and len(edges) == len(word) and book[why[1]] == (word, x)


class JudgeTest(unittest.TestCase):
    def setUp(self):
        self.paper = closing(BOOK, AUTOMATON)

    def spoilt(self, at, entry):
        return judge_closing(BOOK, AUTOMATON, self.paper[:at] + (entry,) + self.paper[at + 1:])

    def test_each_kind_of_reason_is_there(self):
        self.assertEqual({entry[3][0] for entry in self.paper}, {"stay", "edge", "join", "rule"})

    def test_forms(self):
        for at, (p, x, q, why) in enumerate(self.paper):
            for bad in (None, 5, "entry", (), (p, x, q), (p, x, q, why, why), (True, x, q, why), (p, x, None, why),
                        (p, None, q, why), (-1, x, q, why), (4, x, q, why), (p, x, 4, why), (p, x, -1, why),
                        (p, "d", q, why), (p, "ab", q, why), (p, x, q, None), (p, x, q, ()), (p, x, q, why[0]),
                        (p, x, q, ("no",)), (p, x, q, (5,)), (p, x, q, why + (0,)), (p, x, q, ([],) + why[1:]),
                        (p, x, q, why[:-1])):
                self.assertEqual(self.spoilt(at, bad), at, bad)

    def test_parts_of_edges(self):
        for at, (p, x, q, why) in enumerate(self.paper):
            for entry in [(state, x, q, why) for state in range(4)] + [(p, x, state, why) for state in range(4)] + [
                    (p, sign, q, why) for sign in ("", "a", "b", "c")]:
                if entry != self.paper[at]:
                    told = self.spoilt(at, entry)
                    spoilt = self.paper[:at] + (entry,) + self.paper[at + 1:]
                    wrong = [k for k in range(len(spoilt)) if not naive_right(BOOK, AUTOMATON, spoilt, k)]
                    self.assertEqual(told, wrong[0] if wrong else len(spoilt))

    def test_numbers_in_reasons(self):
        for at, (p, x, q, why) in enumerate(self.paper):
            if why[0] == "join":
                made = [("join", k, why[2]) for k in range(-2, len(self.paper) + 2)]
                made += [("join", why[1], k) for k in range(-2, len(self.paper) + 2)]
            elif why[0] == "rule":
                made = [("rule", k, why[2]) for k in range(-2, len(RULES) + 2)]
                made += [("rule", why[1], why[2][:i] + (k,) + why[2][i + 1:]) for i in range(len(why[2]))
                         for k in range(-2, len(self.paper) + 2)]
            else:
                made = [("stay",), ("edge",)]
            for reason in made:
                spoilt = self.paper[:at] + ((p, x, q, reason),) + self.paper[at + 1:]
                fits = naive_right(BOOK, AUTOMATON, spoilt, at)
                self.assertEqual(self.spoilt(at, (p, x, q, reason)), -1 if fits else at, reason)

    def test_things_that_are_no_numbers(self):
        for at, (p, x, q, why) in enumerate(self.paper):
            for bad in (None, "0", True, False, (0,)):
                if why[0] == "join":
                    self.assertEqual(self.spoilt(at, (p, x, q, ("join", bad, why[2]))), at)
                    self.assertEqual(self.spoilt(at, (p, x, q, ("join", why[1], bad))), at)
                if why[0] == "rule":
                    self.assertEqual(self.spoilt(at, (p, x, q, ("rule", bad, why[2]))), at)
                    for i in range(len(why[2])):
                        items = why[2][:i] + (bad,) + why[2][i + 1:]
                        self.assertEqual(self.spoilt(at, (p, x, q, ("rule", why[1], items))), at)
                    self.assertEqual(self.spoilt(at, (p, x, q, ("rule", why[1], bad))), at)
                    for items in ((), why[2][:-1], why[2] + why[2][-1:]):
                        self.assertEqual(self.spoilt(at, (p, x, q, ("rule", why[1], items))), at)

    def test_refers_to_itself(self):
        book, automaton = Book("a", (("a", ""),)), (1, ((0, "a", 0),), ())
        self.assertEqual(judge_closing(book, automaton, ((0, "", 0, ("join", 0, 0)),)), 0)
        paper = ((0, "", 0, ("stay",)), (0, "a", 0, ("join", 1, 0)))
        self.assertEqual(judge_closing(book, automaton, paper), 1)
        paper = ((0, "a", 0, ("edge",)), (0, "", 0, ("rule", 0, (0,))))
        self.assertEqual(judge_closing(book, automaton, paper), -1)
        paper = ((0, "", 0, ("rule", 0, (1,))), (0, "a", 0, ("edge",)))
        self.assertEqual(judge_closing(book, automaton, paper), 0)

    def test_not_closed(self):
        book = Book("ab", (("ab", "a"), ("b", "")))
        automaton = (3, ((0, "a", 1), (1, "b", 2)), ())
        stays = tuple((p, "", p, ("stay",)) for p in range(3))
        paper = stays + ((0, "a", 1, ("edge",)), (1, "b", 2, ("edge",)))
        self.assertEqual(judge_closing(book, automaton, paper), 5)
        paper = paper + ((1, "", 2, ("rule", 1, (4,))),)
        self.assertEqual(judge_closing(book, automaton, paper), 6)
        self.assertEqual(judge_closing(book, automaton, paper + ((0, "a", 2, ("join", 3, 5)),)), -1)
        self.assertEqual(judge_closing(book, automaton, paper + ((0, "a", 2, ("rule", 0, (3, 4))),)), -1)
        self.assertEqual(judge_closing(book, automaton, stays), 3)
        self.assertEqual(judge_closing(Book("ab", ()), (3, (), ()), stays), -1)
        self.assertEqual(judge_closing(Book("ab", ()), (3, (), ()), stays[:2]), 2)

    def test_both_signs_in_a_join(self):
        automaton = (2, ((0, "a", 0), (0, "b", 1)), ())
        paper = ((0, "a", 0, ("edge",)), (0, "b", 1, ("edge",)), (0, "ab", 1, ("join", 0, 1)))
        self.assertEqual(judge_closing(Book("ab", ()), automaton, paper), 2)

    def test_wrong_automata(self):
        for call in (closed_edges, descends, closing, lambda book, thing: judge_closing(book, thing, None)):
            with self.assertRaises(BadAutomaton) as caught:
                call(BOOK, (2, ((0, "d", 1),), ()))
            self.assertEqual(caught.exception.place, 0)


if __name__ == "__main__":
    unittest.main()
