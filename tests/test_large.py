"""The largest inputs that the document lets."""

import unittest

import brute
from shrunkalike.automata import accepts, least_automaton, within
from shrunkalike.books import Book
from shrunkalike.closing import closed_edges, closing, descends, judge_closing
from shrunkalike.errors import TooMany
from shrunkalike.lots import Lot, lies_within, single, whole
from shrunkalike.origins import all_end, origin
from shrunkalike.prices import cheapest, price_table
from shrunkalike.settling import least_book, same_ends, settled
from shrunkalike.shrinking import overlaps, played, shrinks

SIGNS = "abcdefgh"


def full_rules(seed, sizes):
    chance = brute.made(seed)
    found = []
    while len(found) < 64:
        left = "".join(chance.choice(SIGNS) for _ in range(chance.choice(sizes)))
        rule = (left, chance.choice([""] + list(SIGNS)))
        if len(rule[1]) < len(left) and rule not in found:
            found.append(rule)
    return tuple(found)


def full_automaton(seed, many=40, edges=400, signs=SIGNS):
    chance = brute.made(seed)
    found = set()
    while len(found) < edges:
        found.add((chance.randrange(many), chance.choice(signs), chance.randrange(many)))
    return (many, tuple(sorted(found)), tuple(range(many - 3, many)))


def full_mends(seed):
    chance = brute.made(seed)
    found = []
    while len(found) < 64:
        left = "".join(chance.choice(SIGNS) for _ in range(chance.randint(0, 4)))
        right = chance.choice([""] + list(SIGNS))
        if left != right:
            found.append((left, right, chance.randint(0, 1000)))
    return tuple(found)


def table_book(size):
    """The table of the numbers below the size, which are added round; the signs are all but 0."""
    name = [""] + list(SIGNS[:size - 1])
    return Book(SIGNS[:size - 1], tuple((name[i] + name[j], name[(i + j) % size])
                                        for i in range(1, size) for j in range(1, size)))


FREE_GROUP = Book(SIGNS, tuple((x + y, "") for x, y in ("ab", "ba", "cd", "dc", "ef", "fe", "gh", "hg")))


class LargeBooksTest(unittest.TestCase):
    def test_many_overlaps(self):
        rules = full_rules(1, [1, 2, 3, 4])
        book = Book(SIGNS, rules)
        told = overlaps(book)
        self.assertEqual(len(set(told)), len(told))
        self.assertEqual(list(told), sorted(told, key=lambda row: (len(row[0]),) + row))
        verdict = settled(book)
        if not verdict:
            self.assertEqual(verdict.text, book.quarrel)
            self.assertEqual(verdict.ends, tuple(brute.ends(rules, book.quarrel)))

    def test_a_table_of_64_rules(self):
        book = table_book(9)
        self.assertEqual(len(book), 64)
        self.assertTrue(settled(book))
        self.assertEqual(len(settled(book).meets), 512)
        self.assertEqual(least_book(book).rules, tuple(sorted(book.rules)))
        self.assertTrue(same_ends(book, least_book(book)))
        self.assertEqual(whole(book).automaton[0], 2)
        self.assertEqual(book("h" * 200), SIGNS[8 * 200 % 9 - 1])

    def test_long_texts(self):
        book = table_book(9)
        text = "abcdefgh" * 25
        over, run = text, []
        while len(over) > 1:
            run.append((0, [k for k, rule in enumerate(book) if over.startswith(rule[0])][0]))
            over = brute.after(book.rules, over, run[-1])
        self.assertEqual(played(book, text, run)[-1], book(text))
        with self.assertRaises(TooMany):
            shrinks(book, text)


class LargeAutomataTest(unittest.TestCase):
    def test_least_and_within(self):
        one = full_automaton(2, 40, 60, "ab")
        other = full_automaton(3, 40, 400)
        told = within(SIGNS, one, other)
        if not told:
            self.assertTrue(accepts(SIGNS, one, told.text))
            self.assertFalse(accepts(SIGNS, other, told.text))
        least = least_automaton(SIGNS, full_automaton(4, 40, 70))
        self.assertEqual(least_automaton(SIGNS, least) if least[0] <= 40 else least, least)

    def test_closed_edges_and_papers(self):
        for sizes in ([1, 2, 3, 4], [4]):
            book = Book(SIGNS, full_rules(5, sizes))
            for edges in (400, 60):
                automaton = full_automaton(6, 40, edges)
                told = closed_edges(book, automaton)
                paper = closing(book, automaton)
                self.assertEqual(tuple(sorted(entry[:3] for entry in paper)), told)
                self.assertEqual(judge_closing(book, automaton, paper), -1)
                self.assertEqual(judge_closing(book, automaton, paper[:-1]), len(paper) - 1)
                self.assertLessEqual(descends(book, automaton)[0], 400)

    def test_origins(self):
        book = Book(SIGNS, full_rules(7, [3, 4]))
        automaton = full_automaton(8, 40, 60)
        told = closed_edges(book, automaton)
        for edge in told[:3] + told[-3:]:
            text, run = origin(book, automaton, edge)
            self.assertEqual(played(book, text, run)[-1], edge[1])
            self.assertIn(edge[2], brute.walk(automaton, {edge[0]}, text))

    def test_all_end(self):
        book = Book(SIGNS, full_rules(9, [2, 3, 4]))
        automaton = full_automaton(10)
        told = all_end(book, automaton, (1, tuple((0, x, 0) for x in SIGNS), (0,)))
        self.assertTrue(told)
        told = all_end(book, automaton, (2, tuple((p, x, 1 - p) for p in (0, 1) for x in SIGNS), (0,)))
        self.assertTrue(accepts(SIGNS, automaton, told.text))
        self.assertEqual(len(told.end) % 2, 1)
        self.assertIn(told.end, brute.shrinks(book.rules, told.text))

    def test_prices(self):
        book = Book(SIGNS, full_rules(11, [2, 3, 4]))
        automaton, mends = full_automaton(12), full_mends(13)
        prices = tuple(k * 97 % 1001 for k in range(64))
        told = price_table(book, prices, mends, automaton)
        edges = {entry[:3]: entry[3] for entry in told}
        self.assertTrue(set(closed_edges(book, automaton)) <= set(edges))
        for left, right, price in [rule + (price,) for rule, price in zip(book, prices)] + list(mends):
            rows = {0: 0}
            for sign in left:
                longer = {}
                for p, value in rows.items():
                    for q in range(40):
                        if (p, sign, q) in edges:
                            brute.bettered(longer, q, value + edges[(p, sign, q)])
                rows = longer
            for q, value in rows.items():
                self.assertLessEqual(edges[(0, right, q)], value + price)

    def test_cheapest(self):
        book = Book(SIGNS, full_rules(14, [2, 3, 4]))
        automaton, mends = full_automaton(15, 40, 60), full_mends(16)
        prices = tuple(k * 89 % 1001 for k in range(64))
        deeds = [rule + (price,) for rule, price in zip(book, prices)] + list(mends)
        for goal in ((2, ((0, "h", 1),), (1,)), full_automaton(17, 40, 60)):
            told = cheapest(book, prices, mends, automaton, goal)
            self.assertTrue(told)
            text = told.text
            self.assertTrue(accepts(SIGNS, automaton, text))
            for step in told.run:
                self.assertIn(step, brute.steps(deeds, text))
                text = brute.after(deeds, text, step)
            self.assertEqual(text, told.goal_text)
            self.assertEqual(sum(deeds[k][2] for _, k in told.run), told.price)
            self.assertTrue(accepts(SIGNS, goal, text))


class LargeLotsTest(unittest.TestCase):
    def test_lots_of_400_states(self):
        one = single(FREE_GROUP, "aceg" * 50)
        product = one * single(FREE_GROUP, "eg" * 99 + "e")
        self.assertEqual(product.automaton[0], 400)
        with self.assertRaises(TooMany):
            one * single(FREE_GROUP, "eg" * 100)
        with self.assertRaises(TooMany):
            product * one
        back = single(FREE_GROUP, "f" + "hf" * 99)
        self.assertEqual(product * back, one)
        self.assertEqual(product & product, product)
        self.assertEqual((product - product).least(), None)
        self.assertTrue(lies_within(product, product))
        self.assertEqual(lies_within(product, one).end, "aceg" * 50 + "eg" * 99 + "e")
        self.assertEqual(product.again().listed(2), ("", "aceg" * 50 + "eg" * 99 + "e"))

    def test_free_group(self):
        automaton = full_automaton(18, 40, 50)
        lot = Lot(FREE_GROUP, automaton)
        listed = lot.listed(200)
        self.assertEqual(list(listed), sorted(listed, key=brute.order))
        self.assertTrue(all(end in lot for end in listed))
        self.assertTrue(lies_within(lot, whole(FREE_GROUP)))
        rest = whole(FREE_GROUP) - lot
        self.assertEqual(rest | lot, whole(FREE_GROUP))
        self.assertEqual((rest & lot).least(), None)
        for size in (0, 1, 2, 200):
            self.assertEqual(rest.counted(size) + lot.counted(size), whole(FREE_GROUP).counted(size))
        self.assertTrue(lies_within(lot * lot, lot.again()))


if __name__ == "__main__":
    unittest.main()
