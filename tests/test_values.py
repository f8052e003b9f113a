"""Point [33]: the values of expressions."""

import unittest
from unittest import mock

import brute
from lotkit import BOOKS, BRACKETS, FREE, GROUP, LOOSE, NOTHING, bag, ends_of, loop, rotations, some_books
from shrunkalike import least
from shrunkalike.books import Book, over
from shrunkalike.errors import BadExpression, BadText, BadTree, NotSettled, TooMany
from shrunkalike.expressions import parse, write
from shrunkalike.lots import Lot, single, whole
from shrunkalike.quotients import every_ahead, every_behind, some_ahead, some_behind
from shrunkalike.values import value, value_of
from test_expressions import PAIRS, listed, some_tree

A, B = ("sign", "a"), ("sign", "b")
# Ends whose ninth sign from behind is an a, so that all nine last signs must be known.
WIDE = ".a" + "(a|b)" * 8


def in_value(book, tree, known):
    """The meanings by the words of the document; what the four arrows tell only among the known ones."""
    form = tree[0]
    if form == "sign":
        return {over(book, tree[1])}
    if form == "1":
        return {""}
    if form == "0":
        return set()
    one, other = [in_value(book, part, known) for part in tree[1:]]
    if form == "|":
        return one | other
    if form == "&":
        return one & other
    if form == "-":
        return one - other
    if form == "row":
        return {over(book, x + y) for x in one for y in other}
    if form in (">", ">>"):
        test = any if form == ">" else all
        return {m for m in known if test(over(book, x + m) in other for x in one)}
    test = any if form == "<" else all
    return {m for m in known if test(over(book, m + y) in one for y in other)}


def finite_tree(chance, deepest):
    """A tree all of whose parts, but the whole, are finite."""
    if deepest == 1 or chance.random() < 0.1:
        return chance.choice([A, B, ("1",), ("0",), A, B])
    form = chance.choice(["|", "&", "-", "row", "row", "|"])
    return (form, finite_tree(chance, deepest - 1), finite_tree(chance, deepest - 1))


def plain(book, tree):
    """The value, form by form."""
    form = tree[0]
    if form == "sign":
        return single(book, tree[1])
    if form in ("1", "0", "."):
        return {"1": single(book, ""), "0": Lot(book, NOTHING), ".": whole(book)}[form]
    parts = [plain(book, part) for part in tree[1:]]
    if form == "*":
        return parts[0].again()
    one, other = parts
    return {"|": lambda: one | other, "&": lambda: one & other, "-": lambda: one - other, "row": lambda: one * other,
            ">": lambda: some_behind(one, other), ">>": lambda: every_behind(one, other),
            "<": lambda: some_ahead(other, one), "<<": lambda: every_ahead(other, one)}[form]()


class ValueTest(unittest.TestCase):
    def test_each_form(self):
        told = {"a": single(GROUP, "a"), "1": single(GROUP, ""), "0": Lot(GROUP, NOTHING), ".": whole(GROUP),
                "a|b": bag(GROUP, ["a", "b"]), "(a|b)&(1|b)": single(GROUP, "b"), ".-1": whole(GROUP) - single(GROUP, ""),
                "aab": single(GROUP, "a"), "a*": Lot(GROUP, loop("a")), "a>b": single(GROUP, "bb"),
                "aa<b": single(GROUP, "aaa"), "a<aa": single(GROUP, "b"), "a*>>a*": Lot(GROUP, loop("a")),
                "a*>1": Lot(GROUP, loop("b")), "a*>>1": Lot(GROUP, NOTHING), "1<a*": Lot(GROUP, loop("b")),
                "b*<<b*": Lot(GROUP, loop("b")), "0>>1": whole(GROUP), "0>1": Lot(GROUP, NOTHING), "1<<0": whole(GROUP),
                "aa>>(aa|a)": bag(GROUP, ["", "b"]), "a|aa>>(aa|a)": bag(GROUP, ["a", "", "b"])}
        for text, lot in told.items():
            self.assertEqual(value_of(GROUP, text), lot, text)
            self.assertEqual(value(GROUP, parse("ab", text)), lot, text)
            self.assertEqual(value(book=GROUP, tree=listed(parse("ab", text))), lot, text)
        self.assertEqual(value_of(book=BRACKETS, text="a>1"), single(BRACKETS, "b"))
        self.assertEqual(value_of(BRACKETS, "1<a"), Lot(BRACKETS, NOTHING))
        self.assertEqual(value_of(BRACKETS, "1<b"), single(BRACKETS, "a"))

    def test_signs_that_are_no_ends(self):
        book = Book("abc", (("a", ""), ("bb", "c"), ("cc", "b"), ("bc", ""), ("cb", "")))
        self.assertEqual(value_of(book, "a"), single(book, ""))
        self.assertEqual(value_of(book, "bb"), single(book, "c"))

    def test_against_all_short_ends(self):
        chance = brute.made(1)
        seen = {}
        for book in [told for told in BOOKS + some_books(1, 60) if "ab" in told.signs]:
            known = ends_of(book, {2: 5, 3: 4}.get(len(book.signs), 3))
            for form in (">", ">>", "<", "<<", "|", "row"):
                tree = (form, finite_tree(chance, 3), finite_tree(chance, 3))
                if form in ("|", "row"):
                    tree = finite_tree(chance, 5)
                lot = value(book, tree)
                told = in_value(book, tree, known)
                for end in known:
                    self.assertIs(end in lot, end in told, (book.rules, tree, end))
                seen[form] = seen.get(form, 0) + (len(told) > 0)
        self.assertGreater(min(seen.values()), 10, seen)

    def test_form_by_form(self):
        chance = brute.made(2)
        found = 0
        for book in [told for told in BOOKS if "ab" in told.signs] * 6:
            tree = some_tree(chance, 4, "ab")
            try:
                lot = plain(book, tree)
            except TooMany:
                with self.assertRaises(TooMany):
                    value(book, tree)
                continue
            self.assertEqual(value(book, tree), lot)
            if len(write("ab", tree)) <= 400:
                self.assertEqual(value_of(book, write("ab", tree)), lot)
            found += 1
        self.assertGreater(found, 80)

    def test_parts_that_stand_there_often(self):
        tree = ("|", A, ("row", A, B))
        for _ in range(17):
            tree = ("|", tree, tree)
        self.assertEqual(value(GROUP, tree), bag(GROUP, ["a", ""]))
        for form in PAIRS:
            tree = (".",)
            for _ in range(12):
                tree = (form, tree, tree)
            value(rotations(4), ("&", tree, ("row", ("sign", "a"), tree)))


class ErrorsTest(unittest.TestCase):
    def test_not_settled(self):
        for thing in (A, None, ("sign", "z"), "a"):
            with self.assertRaises(NotSettled) as caught:
                value(LOOSE, thing)
            self.assertEqual(caught.exception.text, "aaa")
        for thing in ("a", "", None, "a" * 401, "|", "a" * 30, WIDE):
            with self.assertRaises(NotSettled) as caught:
                value_of(LOOSE, thing)
            self.assertEqual(caught.exception.text, "aaa")

    def test_what_is_no_tree(self):
        deep = A
        for _ in range(19):
            deep = ("*", deep)
        self.assertEqual(value(GROUP, deep), Lot(GROUP, loop("a")))
        for thing in (None, True, "a", (), ("a",), ("sign", "c"), ("sign", ""), ("sign", "ab"), ("|", A), ("*", A, B),
                      ("1", A), ("*", deep), ("row", A, ("sign", 5)), ("-", deep, A), ("x", A, B), ("sign",)):
            with self.assertRaises(BadTree):
                value(GROUP, thing)
        # It goes ahead of too many states of a part.
        with self.assertRaises(BadTree):
            value(FREE, ("|", parse("ab", WIDE), ("sign", "c")))

    def test_errors_of_texts(self):
        for thing in (None, True, 5, ("sign", "a"), "a" * 401):
            with self.assertRaises(BadText) as caught:
                value_of(GROUP, thing)
            self.assertIs(caught.exception.thing, thing)
        for text, place in (("", 0), ("a|", 2), ("c", 0), (">", 0), (WIDE + ")", len(WIDE))):
            with self.assertRaises(BadExpression) as caught:
                value_of(FREE, text)
            self.assertEqual(caught.exception.place, place)
        with self.assertRaises(TooMany) as caught:
            value_of(FREE, "a" * 21)
        self.assertEqual(caught.exception.word, "depth")
        with self.assertRaises(TooMany) as caught:
            value_of(FREE, WIDE + "|" + "a" * 21)
        self.assertEqual(caught.exception.word, "depth")

    def test_too_many_states(self):
        for text in (WIDE, "0(" + WIDE + ")", "(" + WIDE + ")0", "0&" + WIDE, "1|" + WIDE + "-" + WIDE, "0-" + WIDE,
                     "0>" + WIDE, "0>>(" + WIDE + ")", "0<" + WIDE, "(" + WIDE + ")<<0", ".|" + WIDE, "0&(0&" + WIDE + ")",
                     "(" + WIDE + ")*&0", "(0(" + WIDE + "))|1"):
            with self.assertRaises(TooMany) as caught:
                value_of(FREE, text)
            self.assertEqual(caught.exception.word, "state", text)
        self.assertEqual(value_of(FREE, ".a" + "(a|b)" * 7).automaton[0], 256)
        with mock.patch.object(least, "MOST_KEPT_STATES", 2):
            self.assertEqual(value_of(GROUP, "a").listed(2), ("a",))
            for text in ("0&aa", "1-(1|aa)", ".", "0."):
                with self.assertRaises(TooMany):
                    value_of(GROUP, text)


if __name__ == "__main__":
    unittest.main()
