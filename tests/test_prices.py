"""Point [14]: prices, mends, the price table, and the cheapest runs."""

import unittest

import brute
from shrunkalike.automata import accepts
from shrunkalike.books import Book
from shrunkalike.closing import closed_edges
from shrunkalike.errors import BadAutomaton, BadMend, BadPrice, TooMany
from shrunkalike.prices import cheapest, price_table

ONE = (1, (), (0,))


def chain(text):
    return (len(text) + 1, tuple((k, x, k + 1) for k, x in enumerate(text)), (len(text),))


def some(seed, many, signs="ab", highest=4, mends=4, longest=4):
    chance = brute.made(seed)
    found = []
    for _ in range(many):
        rules = brute.some_rules(chance, signs, 4, longest)
        found.append((Book(signs, rules), tuple(chance.randint(0, highest) for _ in rules),
                      brute.some_mends(chance, signs, mends, highest, longest),
                      brute.some_automaton(chance, signs, 3, 6), brute.some_automaton(chance, signs, 3, 6)))
    return found


def price_of(deeds, run):
    return sum(deeds[number][2] for _, number in run)


class ChecksTest(unittest.TestCase):
    BOOK = Book("ab", (("ab", ""), ("ba", "a")))

    def calls(self, prices, mends, automaton=ONE, goal=ONE):
        return (lambda: price_table(self.BOOK, prices, mends, automaton),
                lambda: cheapest(self.BOOK, prices, mends, automaton, goal))

    def test_prices(self):
        for prices in ((0, 1000), [1000, 0], (0, 0)):
            for call in self.calls(prices, ()):
                call()
        for thing in (None, 5, "ab", (), (0,), (0, 0, 0), [0], {}, True):
            for call in self.calls(thing, 5, 5, 5):
                with self.assertRaises(BadPrice) as caught:
                    call()
                self.assertEqual(caught.exception.place, -1)
        for bad in (-1, 1001, None, "0", True, False, 10 ** 59, (0,)):
            for prices, place in (((bad, bad), 0), ((0, bad), 1), ([0, bad], 1)):
                for call in self.calls(prices, 5, 5, 5):
                    with self.assertRaises(BadPrice) as caught:
                        call()
                    self.assertEqual(caught.exception.place, place)

    def test_mends(self):
        good = (("", "a", 0), ("abab", "b", 1000), ["a", "", 5], ("b", "a", 1), ("b", "a", 1), ("b", "a", 2))
        for mends in (good, list(good), (), [], (good * 11)[:64]):
            for call in self.calls((0, 0), mends):
                call()
        for thing in (None, 5, "ab", {}, True, (good * 11)[:65]):
            for call in self.calls((0, 0), thing, 5, 5):
                with self.assertRaises(BadMend) as caught:
                    call()
                self.assertEqual(caught.exception.place, -1)
        for bad in (None, 5, "ab1", (), ("a", ""), ("a", "", 1, 1), ("a", "a", 1), ("", "", 1), ("ababa", "a", 1),
                    ("a", "ab", 1), ("c", "", 1), ("a", "c", 1), ("a", "", -1), ("a", "", 1001), ("a", "", True),
                    ("a", "", None), (None, "", 1), ("a", None, 1), (["a"], "", 1), ("a", "", "1")):
            for call in self.calls((0, 0), good + (bad, bad), 5, 5):
                with self.assertRaises(BadMend) as caught:
                    call()
                self.assertEqual(caught.exception.place, 6, bad)

    def test_automata(self):
        for automaton, goal, place in ((5, 6, -1), ((1, (), (1,)), 5, 0)):
            for call in self.calls((0, 0), (), automaton, goal):
                with self.assertRaises(BadAutomaton) as caught:
                    call()
                self.assertEqual(caught.exception.place, place)
        with self.assertRaises(BadAutomaton) as caught:
            cheapest(self.BOOK, (0, 0), (), ONE, (2, ((0, "a", 1), (0, "c", 1)), ()))
        self.assertEqual(caught.exception.place, 1)


class PriceTableTest(unittest.TestCase):
    def test_greatest_numbers(self):
        for book, prices, mends, automaton, _ in some(1, 120):
            known = brute.prices(book.signs, book.rules, prices, mends, automaton)
            told = price_table(book, prices, mends, automaton)
            self.assertEqual(told, tuple(sorted(edge + (price,) for edge, price in known.items())))

    def test_great_prices(self):
        for book, prices, mends, automaton, _ in some(2, 40, "abc", 1000, 6):
            known = brute.prices(book.signs, book.rules, prices, mends, automaton)
            told = price_table(book, prices, mends, automaton)
            self.assertEqual(told, tuple(sorted(edge + (price,) for edge, price in known.items())))

    def test_without_prices(self):
        for book, prices, mends, automaton, _ in some(3, 60):
            told = price_table(book, (0,) * len(prices), (), automaton)
            self.assertEqual(told, tuple(edge + (0,) for edge in closed_edges(book, automaton)))

    def test_against_runs(self):
        for book, prices, mends, automaton, _ in some(4, 25, "ab", 3, 3, 3):
            deeds = [rule + (price,) for rule, price in zip(book.rules, prices)] + list(mends)
            told = {edge[:3]: edge[3] for edge in price_table(book, prices, mends, automaton)}
            for x in ("", "a", "b"):
                led = brute.led_prices(deeds, 5, "ab", chain(x))
                for p, text, q in brute.ways(automaton, 4, "ab"):
                    if text in led:
                        self.assertLessEqual(told[(p, x, q)], led[text][0])

    def test_each_kind_of_mend(self):
        book = Book("abc", (("aa", "b"),))
        automaton = [3, [[0, "a", 1], [1, "c", 2]], [2]]
        plain = [(0, "", 0, 0), (0, "a", 1, 0), (1, "", 1, 0), (1, "c", 2, 0), (2, "", 2, 0)]
        self.assertEqual(price_table(book, (7,), (), automaton), tuple(plain))
        self.assertEqual(price_table(book, (7,), (("a", "", 5),), automaton),
                         tuple(sorted(plain + [(0, "", 1, 5), (0, "c", 2, 5)])))
        self.assertEqual(price_table(book, (7,), (("c", "a", 5),), automaton),
                         tuple(sorted(plain + [(1, "a", 2, 5), (0, "b", 2, 12)])))
        self.assertEqual(price_table(book, [7], [["ac", "a", 1000]], automaton),
                         tuple(sorted(plain + [(0, "a", 2, 1000)])))
        told = dict((edge[:3], edge[3]) for edge in price_table(book, (7,), (("", "a", 10),), automaton))
        self.assertEqual([told[(p, x, p)] for p in range(3) for x in "ab"], [10, 27] * 3)
        self.assertEqual((told[(0, "b", 1)], told[(0, "a", 1)]), (17, 0))
        self.assertNotIn((0, "", 1), told)
        self.assertEqual(price_table(book=book, prices=(7,), mends=(), automaton=ONE), ((0, "", 0, 0),))

    def test_an_empty_left_side_and_an_empty_text(self):
        told = price_table(Book("ab", ()), (), (("", "a", 3), ("aa", "b", 4), ("b", "", 5)), ONE)
        self.assertEqual(told, ((0, "", 0, 0), (0, "a", 0, 3), (0, "b", 0, 10)))


class CheapestTest(unittest.TestCase):
    def check(self, book, prices, mends, automaton, goal):
        """What is told is a run as it should be; whether it is the cheapest one is not looked at."""
        told = cheapest(book, prices, mends, automaton, goal)
        self.assertIs(bool(told), told.holds)
        if not told.holds:
            self.assertEqual((told.price, told.text, told.goal_text, told.run), (None,) * 4)
            return told
        deeds = [rule + (price,) for rule, price in zip(book.rules, prices)] + list(mends)
        text = told.text
        self.assertTrue(accepts(book.signs, automaton, text))
        for step in told.run:
            self.assertIn(step, brute.steps(deeds, text))
            text = brute.after(deeds, text, step)
        self.assertEqual(text, told.goal_text)
        self.assertTrue(brute.accepts(goal, text))
        self.assertEqual(price_of(deeds, told.run), told.price)
        self.assertIsInstance(told.run, tuple)
        return told

    def test_against_all_runs(self):
        # Without a mend that puts signs in, no text on the way is longer than the first one.
        seen, far = 0, 0
        for book, prices, mends, automaton, goal in some(5, 150, "ab", 3, 4, 3):
            mends = tuple(mend for mend in mends if mend[0])
            deeds = [rule + (price,) for rule, price in zip(book.rules, prices)] + list(mends)
            told = self.check(book, prices, mends, automaton, goal)
            led = brute.led_prices(deeds, 7, "ab", goal)
            known = sorted((led[text][0], brute.order(text), led[text][1])
                           for text in brute.language("ab", automaton, 7) if text in led)
            if not told.holds:
                self.assertEqual(known, [])
                continue
            seen += 1
            if len(told.text) > 7:
                far += 1
                self.assertTrue(not known or known[0][0] > told.price)
            else:
                self.assertEqual((told.price, brute.order(told.text), len(told.run)), known[0])
        self.assertGreater(seen, 60)
        self.assertLess(far, 10)

    def test_with_signs_put_in(self):
        seen = 0
        for book, prices, mends, automaton, goal in some(6, 150, "ab", 3, 4, 3):
            mends = mends + (("", "a", 2),)
            deeds = [rule + (price,) for rule, price in zip(book.rules, prices)] + list(mends)
            told = self.check(book, prices, mends, automaton, goal)
            led = brute.led_prices(deeds, 7, "ab", goal)
            known = sorted((led[text][0], brute.order(text), led[text][1])
                           for text in brute.language("ab", automaton, 6) if text in led)
            if not told.holds:
                self.assertEqual(known, [])
            elif known:
                seen += 1
                self.assertLessEqual((told.price, brute.order(told.text), len(told.run)), known[0])
                if len(told.text) < 4 and told.price < 5:
                    self.assertEqual((told.price, brute.order(told.text), len(told.run)), known[0])
        self.assertGreater(seen, 50)

    def test_price_against_the_table(self):
        for book, prices, mends, automaton, goal in some(7, 80, "abc", 5, 5):
            table = brute.prices(book.signs, book.rules, prices, mends, automaton)
            best, changed = {(0, 0): 0}, True
            while changed:
                changed = False
                for (p, g), price in list(best.items()):
                    moves = [(q, g, more) for (r, x, q), more in table.items() if r == p and not x]
                    moves += [(p, h, 0) for f, x, h in goal[1] if f == g and not x]
                    moves += [(q, h, more) for f, x, h in goal[1] if f == g and x
                              for (r, y, q), more in table.items() if r == p and x == y]
                    for q, h, more in moves:
                        changed |= brute.bettered(best, (q, h), price + more)
            known = [price for (p, g), price in best.items() if p in automaton[2] and g in goal[2]]
            told = self.check(book, prices, mends, automaton, goal)
            self.assertEqual(told.price, min(known, default=None))

    def test_plain_ones(self):
        book = Book("abc", (("ab", "c"), ("ab", "")))
        told = cheapest(book, (3, 2), (), [3, [[0, "a", 1], [1, "b", 2]], [2]], [1, [], [0]])
        self.assertEqual((told.holds, told.price, told.text, told.goal_text, told.run), (True, 2, "ab", "", ((0, 1),)))
        told = cheapest(book=book, prices=(3, 2), mends=(), automaton=chain("ab"), goal=chain("b"))
        self.assertEqual((told.holds, told.price, told.text, told.goal_text, told.run), (False, None, None, None, None))
        told = self.check(book, (3, 2), (("a", "b", 1), ("b", "c", 1), ("bb", "", 0)), chain("ab"), chain(""))
        self.assertEqual((told.price, told.text, len(told.run)), (1, "ab", 2))
        told = self.check(book, (3, 2), (), ONE, ONE)
        self.assertEqual((told.price, told.text, told.goal_text, told.run), (0, "", "", ()))
        self.assertFalse(cheapest(book, (0, 0), (), (1, (), ()), ONE))
        self.assertFalse(cheapest(book, (0, 0), (), ONE, (1, (), ())))

    def test_price_then_text_then_steps(self):
        book = Book("abc", (("aa", ""), ("b", "")))
        mends = (("a", "", 2), ("aaa", "", 2), ("aaa", "c", 2), ("c", "", 0))
        # The longer text is cheaper.
        told = self.check(book, (1, 5), mends, (2, ((0, "a", 1), (0, "c", 1)), (1,)), ONE)
        self.assertEqual((told.price, told.text), (0, "c"))
        self.assertEqual(cheapest(book, (9, 9), mends, chain("aaa"), ONE).run, ((0, 3),))
        two = (4, ((0, "a", 1), (0, "c", 3), (1, "a", 3)), (3,))
        self.assertEqual(cheapest(book, (0, 9), (("c", "", 0),), two, ONE).text, "c")
        self.assertEqual(cheapest(book, (0, 9), (("c", "", 1),), two, ONE).text, "aa")
        # Equal prices and one text: the goal is the text that takes the fewest steps.
        told = self.check(book, (0, 0), (("a", "b", 0), ("a", "c", 0)), chain("a"), (2, ((0, "", 1), (0, "c", 1)), (1,)))
        self.assertEqual((told.goal_text, told.run), ("c", ((0, 3),)))

    def test_a_longer_text_that_is_cheaper(self):
        book = Book("abc", ())
        loop = (2, ((0, "a", 1), (1, "a", 1)), (1,))
        for price, text in ((4, "aaa"), (5, "a"), (6, "a")):
            told = self.check(book, (), (("a", "c", 5), ("aaa", "c", price)), loop, chain("c"))
            self.assertEqual((told.price, told.text), (min(price, 5), text))

    def test_a_cheap_text_that_is_too_long(self):
        book = Book("abcdef", ())
        steps = (("aaaa", "b", 0), ("bbbb", "c", 0), ("cccc", "d", 0), ("dddd", "e", 3))
        loop = (1, ((0, "a", 0),), (0,))
        for price, fits in ((2, True), (3, True), (4, False)):
            mends = steps + (("a", "e", price),)
            if fits:
                told = self.check(book, (), mends, loop, chain("e"))
                self.assertEqual((told.price, told.text), (price, "a"))
            else:
                with self.assertRaises(TooMany) as caught:
                    cheapest(book, (), mends, loop, chain("e"))
                self.assertEqual(caught.exception.word, "sign")
        # What is cheap about a text that is too long counts in a row, too.
        for price, fits in ((6, True), (7, False)):
            mends = steps + (("a", "f", price),)
            goal = (4, ((0, "e", 1), (0, "f", 3), (1, "e", 3)), (3,))
            if fits:
                self.assertEqual(self.check(book, (), mends, loop, goal).text, "a")
            else:
                with self.assertRaises(TooMany):
                    cheapest(book, (), mends, loop, goal)

    def test_200_signs(self):
        book = Book("abcdefgh", ())
        mends = (("aaaa", "b", 0), ("bbbb", "c", 0))
        for rest, fits in ((7, True), (8, True), (9, False)):
            # The goal has 12 c's, each of them from 16 a's, and a rest that stays as it is.
            edges = [(0, "a", 0), (0, "d", 1)] + [(k, "d", k + 1) for k in range(1, rest)]
            goal = chain("c" * 12 + "d" * rest)
            if fits:
                told = self.check(book, (), mends, (rest + 1, tuple(edges), (rest,)), goal)
                self.assertEqual((told.price, told.text), (0, "a" * 192 + "d" * rest))
                self.assertEqual(len(told.run), 60)
            else:
                with self.assertRaises(TooMany) as caught:
                    cheapest(book, (), mends, (rest + 1, tuple(edges), (rest,)), goal)
                self.assertEqual(caught.exception.word, "sign")

    def test_400_steps(self):
        book = Book("abcdefgh", ())
        # Each sign takes twice as many steps as the one behind it; a is put in by one step.
        mends = (("", "a", 0),) + tuple((x + x, y, 0) for x, y in zip("abcdefg", "bcdefgh"))
        told = self.check(book, (), mends, ONE, chain("h"))
        self.assertEqual((told.text, len(told.run)), ("", 128 + 127))
        told = self.check(book, (), mends, ONE, chain("hg"))
        self.assertEqual(len(told.run), 255 + 127)
        # 255 + 127 + 15 + 3 steps for h, g, d and b.
        told = self.check(book, (), mends, ONE, chain("hgdb"))
        self.assertEqual(len(told.run), 400)
        for goal in ("hgdba", "hh", "hhhhhhhh"):
            with self.assertRaises(TooMany) as caught:
                cheapest(book, (), mends, ONE, chain(goal))
            self.assertEqual(caught.exception.word, "step")

    def test_signs_go_ahead_of_steps(self):
        book = Book("abcdefgh", ())
        mends = (("bbbb", "c", 0), ("cccc", "d", 0), ("dddd", "e", 0), ("", "g", 0), ("gggg", "h", 0), ("gggg", "a", 0),
                 ("ha", "f", 0))
        for goal, word in (("eeee", "sign"), ("f" * 37, "step"), ("eeee" + "f" * 35, "sign")):
            with self.assertRaises(TooMany) as caught:
                cheapest(book, (), mends, (1, ((0, "b", 0),), (0,)), chain(goal))
            self.assertEqual(caught.exception.word, word)
        told = self.check(book, (), mends, (1, ((0, "b", 0),), (0,)), chain("eee" + "f" * 30))
        self.assertEqual((told.text, len(told.run)), ("b" * 192, 63 + 30 * 11))


if __name__ == "__main__":
    unittest.main()
