"""Points [33] and [34]: expressions, written and read."""

import itertools
import unittest

import brute
from shrunkalike.errors import BadExpression, BadSigns, BadText, BadTree, TooMany
from shrunkalike.expressions import parse, write

A, B, C = ("sign", "a"), ("sign", "b"), ("sign", "c")
PAIRS = ("|", "&", "-", ">", ">>", "<", "<<", "row")
LEVELS = (("|",), ("&", "-"), (">", ">>", "<", "<<"))
NO_SIGNS = (None, True, 5, "", "ba", "aa", "aB", "abcdefghi", ("a",), ["a"])


def depth(tree):
    return 1 + max([depth(part) for part in tree[1:] if isinstance(part, tuple)], default=0)


def tokens(text):
    """The tokens of an expression, arrows taken together."""
    found = []
    for mark in text:
        if mark in "<>" and found and found[-1] == mark:
            found[-1] += mark
        else:
            found.append(mark)
    return found


def read(row):
    """The tree of the tokens of an expression: split at the last of the forms that bind least."""
    for forms in LEVELS:
        level = 0
        for at in range(len(row) - 1, -1, -1):
            level += {")": 1, "(": -1}.get(row[at], 0)
            if level == 0 and row[at] in forms:
                return (row[at], read(row[:at]), read(row[at + 1:]))
    level, starts = 0, []
    for at, mark in enumerate(row):
        if level == 0 and mark != "*":
            starts.append(at)
        level += {"(": 1, ")": -1}.get(mark, 0)
    # A closing parenthesis stands at level 1, so the starts are just those of the parts of a row.
    if len(starts) > 1:
        return ("row", read(row[:starts[-1]]), read(row[starts[-1]:]))
    if row[-1] == "*":
        return ("*", read(row[:-1]))
    if row[0] == "(":
        return read(row[1:-1])
    return (row[0],) if row[0] in "10." else ("sign", row[0])


def all_expressions(longest, marks):
    """All texts of expressions up to a length over the marks, by the forms alone."""
    known = {0: set(), 1: set(marks) & set("abc10.")}
    for size in range(2, longest + 1):
        made = {text + "*" for text in known[size - 1]} if "*" in marks else set()
        if "(" in marks and size > 2:
            made |= {"(" + text + ")" for text in known[size - 2]}
        for sign in [""] + [form for form in PAIRS[:-1] if set(form) <= set(marks)]:
            for left in range(1, size - len(sign)):
                made |= {x + sign + y for x in known[left] for y in known[size - len(sign) - left]}
        known[size] = made
    return set().union(*known.values())


def some_tree(chance, deepest, signs="abc"):
    if deepest == 1 or chance.random() < 0.15:
        return chance.choice([("sign", chance.choice(signs)), ("1",), ("0",), (".",)])
    form = chance.choice(PAIRS + ("*", "row", "*"))
    if form == "*":
        return ("*", some_tree(chance, deepest - 1, signs))
    return (form, some_tree(chance, deepest - 1, signs), some_tree(chance, deepest - 1, signs))


def listed(tree):
    return [listed(part) if isinstance(part, tuple) else part for part in tree]


class ParseTest(unittest.TestCase):
    def test_each_form(self):
        told = {"a": A, "1": ("1",), "0": ("0",), ".": (".",), "a|b": ("|", A, B), "a&b": ("&", A, B),
                "a-b": ("-", A, B), "a>b": (">", A, B), "a>>b": (">>", A, B), "a<b": ("<", A, B), "a<<b": ("<<", A, B),
                "ab": ("row", A, B), "a*": ("*", A), "(a)": A, "((a))": A, "(a|b)": ("|", A, B)}
        for text, tree in told.items():
            self.assertEqual(parse("abc", text), tree)
            self.assertIs(type(parse(signs="abc", text=text)), tuple)

    def test_binding(self):
        told = {"ab*": ("row", A, ("*", B)), "(ab)*": ("*", ("row", A, B)), "a**": ("*", ("*", A)),
                "abc": ("row", ("row", A, B), C), "a(bc)": ("row", A, ("row", B, C)),
                "ab>c": (">", ("row", A, B), C), "a>bc": (">", A, ("row", B, C)),
                "a>b>c": (">", (">", A, B), C), "a>>b<c": ("<", (">>", A, B), C), "a<b>>c": (">>", ("<", A, B), C),
                "a<<b>c": (">", ("<<", A, B), C), "a>(b>c)": (">", A, (">", B, C)),
                "a&b>c": ("&", A, (">", B, C)), "a>b&c": ("&", (">", A, B), C), "a&b-c": ("-", ("&", A, B), C),
                "a-b&c": ("&", ("-", A, B), C), "a-b-c": ("-", ("-", A, B), C), "a|b&c": ("|", A, ("&", B, C)),
                "a&b|c": ("|", ("&", A, B), C), "a|b|c": ("|", ("|", A, B), C), "a|b-c": ("|", A, ("-", B, C)),
                "a*b*": ("row", ("*", A), ("*", B)), "(a|b)c": ("row", ("|", A, B), C),
                "a1.0": ("row", ("row", ("row", A, ("1",)), (".",)), ("0",)), "(a)(b)": ("row", A, B),
                "a|b>>c*a&1": ("|", A, ("&", (">>", B, ("row", ("*", C), A)), ("1",)))}
        for text, tree in told.items():
            self.assertEqual(parse("abc", text), tree, text)

    def test_against_splitting(self):
        for text in sorted(all_expressions(6, "ab>|*()")):
            self.assertEqual(parse("ab", text), read(tokens(text)), text)
        for text in sorted(all_expressions(5, "a><&-()1")):
            self.assertEqual(parse("a", text), read(tokens(text)), text)

    def test_arrows(self):
        self.assertEqual(parse("a", "a>>a"), (">>", A, A))
        for text, place in ((">a", 0), (">>a", 0), ("a>>>a", 3), ("a><a", 2), ("a<>a", 2), ("a>>", 3), ("a>", 2),
                            ("a>>>>a", 3), ("(>a)", 1), ("a|>a", 2), ("a> >a", 2), ("a>>a<<a", None), ("a>>(>a)", 4),
                            ("a>|a", 2), ("a>>|", 3), ("(a>)>a", 3), ("(a)>>a", None), ("a*>>a", None), ("a<<<a", 3)):
            if place is None:
                parse("a", text)
            else:
                with self.assertRaises(BadExpression) as caught:
                    parse("a", text)
                self.assertEqual(caught.exception.place, place, text)

    def test_first_bad_character_against_all_short_texts(self):
        for marks, longest in (("ab>|*()", 3), ("a><&-(1", 3), ("a>(.", 4)):
            known = all_expressions(2 * longest + 1, set(marks) | {")"}) - {""}
            begins = {text[:size] for text in known for size in range(longest + 1)}
            for size in range(longest + 1):
                for row in itertools.product(marks + "c ", repeat=size):
                    text = "".join(row)
                    place = min((at for at in range(size) if text[:at + 1] not in begins), default=None)
                    if place is None and text not in known:
                        place = size
                    if place is None:
                        parse("ab", text)
                    else:
                        with self.assertRaises(BadExpression) as caught:
                            parse("ab", text)
                        self.assertEqual(caught.exception.place, place, text)

    def test_bad_characters(self):
        for text, place in (("", 0), ("(", 1), ("a)", 1), ("(a", 2), ("()", 1), ("a b", 1), ("A", 0), ("d", 0), ("ad", 1),
                            ("a||b", 2), ("*", 0), ("(*", 1), ("a|*", 2), ("2", 0), ("a~", 1), ("a&-b", 2), ("a(b", 3),
                            ("a\n", 1), ("a%", 1), ("(((((a)))))", None), ("10", None), ("a" * 399 + "d", 399)):
            if place is None:
                parse("abc", text)
            else:
                with self.assertRaises(BadExpression) as caught:
                    parse("abc", text)
                self.assertEqual(caught.exception.place, place, text)

    def test_wrong_signs_and_texts(self):
        for thing in NO_SIGNS:
            for text in ("a", "", None, "a" * 401):
                with self.assertRaises(BadSigns) as caught:
                    parse(thing, text)
                self.assertIs(caught.exception.thing, thing)
        for thing in (None, True, 5, ("a",), ["a"], b"a", A, "a" * 401, "(" * 401, "~" * 401):
            with self.assertRaises(BadText) as caught:
                parse("abc", thing)
            self.assertIs(caught.exception.thing, thing)

    def test_depth(self):
        self.assertEqual(depth(parse("ab", "a" * 20)), 20)
        self.assertEqual(depth(parse("ab", "a" + "*" * 19)), 20)
        self.assertEqual(depth(parse("ab", "a|" * 19 + "b")), 20)
        self.assertEqual(depth(parse("ab", "a|(" * 18 + "ab" + ")" * 18)), 20)
        for text in ("a" * 21, "a" + "*" * 20, "a|" * 20 + "b", "a|(" * 19 + "ab" + ")" * 19, "a" * 400, "a" + "*" * 399,
                     "a>>" * 132 + "a", "b&(" + "a" * 20 + ")"):
            with self.assertRaises(TooMany) as caught:
                parse("ab", text)
            self.assertEqual(caught.exception.word, "depth")
        # Not the length of a text, but its depth is told.
        self.assertEqual(depth(parse("ab", "(" + "|".join(["ab"] * 16) + ")>(" + "-".join(["a*b"] * 16) + ")")), 19)

    def test_open_parentheses(self):
        self.assertEqual(parse("ab", "(" * 20 + "a" + ")" * 20), A)
        self.assertEqual(parse("ab", "|".join(["(" * 20 + "a" + ")" * 20] * 9)), parse("ab", "|".join("a" * 9)))
        for text in ("(" * 21 + "a" + ")" * 21, "(" * 199 + "a" + ")" * 199, "a|" + "(" * 21 + "a" + ")" * 21):
            with self.assertRaises(TooMany) as caught:
                parse("ab", text)
            self.assertEqual(caught.exception.word, "depth")
        # What is no expression at all goes ahead.
        for text, place in (("(" * 21 + "a" + ")" * 20, 42), ("(" * 400, 400), ("(" * 30 + ")", 30), ("a" * 30 + "|", 31),
                            ("a" + "*" * 30 + ")", 31), ("(" * 21 + "a" + ")" * 22, 43)):
            with self.assertRaises(BadExpression) as caught:
                parse("ab", text)
            self.assertEqual(caught.exception.place, place)

    def test_400_characters(self):
        fine = "(((((((((((((((((((" + "a" + ")))))))))))))))))))"
        text = "|".join([fine] * 10)
        self.assertEqual(len(text), 399)
        self.assertEqual(parse("a", text + "*"), ("|", parse("a", "|".join("a" * 9)), ("*", A)))
        with self.assertRaises(BadText):
            parse("a", text + "**")


class WriteTest(unittest.TestCase):
    def test_each_form(self):
        for text in ("a", "1", "0", ".", "a|b", "a&b", "a-b", "a>b", "a>>b", "a<b", "a<<b", "ab", "a*", "ab*", "(ab)*",
                     "a**", "abc", "a(bc)", "a>b>c", "a>(b>c)", "a>>(b<<c)", "(a|b)c", "a|(b|c)", "a-(b&c)", "a-b&c",
                     "(a|b)&c", "(a&b)>c", "a(b|c)*", "a&b>cc*|1", "(a>b)c", "a(b>c)", "a>bc"):
            self.assertEqual(write("abc", parse("abc", text)), text)
            self.assertEqual(write(signs="abc", tree=listed(parse("abc", text))), text)

    def test_idle_parentheses_go(self):
        for text, told in (("((a))", "a"), ("(ab)c", "abc"), ("(a)*", "a*"), ("(a*)*", "a**"), ("(a|b)|c", "a|b|c"),
                           ("(a>b)<c", "a>b<c"), ("(a&b)|(c)", "a&b|c"), ("a|(b&c)", "a|b&c"), ("(a-b)&c", "a-b&c"),
                           ("a>(bc)", "a>bc"), ("(ab)>(c*)", "ab>c*"), ("((a)(b))((c))", "abc")):
            self.assertEqual(write("abc", parse("abc", text)), told)

    def test_as_few_as_can_be(self):
        chance = brute.made(1)
        for _ in range(1500):
            tree = some_tree(chance, chance.randint(1, 5))
            text = write("abc", tree)
            self.assertEqual(read(tokens(text)), tree)
            self.assertEqual(parse("abc", text), tree) if len(text) <= 400 else None
            self.assertEqual(write("abc", listed(tree)), text)
            for at, mark in enumerate(text):
                if mark == "(":
                    level, end = 1, at
                    while level:
                        end += 1
                        level += {"(": 1, ")": -1}.get(text[end], 0)
                    less = text[:at] + text[at + 1:end] + text[end + 1:]
                    self.assertNotEqual(read(tokens(less)), tree)

    def test_all_short_texts_of_a_tree(self):
        best = {}
        for text in all_expressions(6, "ab>|*()"):
            tree = read(tokens(text))
            if tree not in best or len(text) < len(best[tree]):
                best[tree] = text
        for tree, text in best.items():
            self.assertEqual(write("ab", tree), text)

    def test_long_texts(self):
        tree = A
        for _ in range(16):
            tree = ("row", tree, ("|", A, ("row", B, ("*", A))))
        self.assertEqual(depth(tree), 20)
        self.assertEqual(write("ab", tree), "a" + "(a|ba*)" * 16)
        tree = A
        for _ in range(9):
            tree = ("|", B, ("*", tree))
        self.assertEqual(write("ab", tree), "b|(" * 8 + "b|a*" + ")*" * 8)
        tree = A
        for _ in range(19):
            tree = ("|", B, tree)
        text = write("ab", tree)
        self.assertEqual(text, "b|(" * 18 + "b|a" + ")" * 18)
        self.assertEqual(parse("ab", text), tree)
        tree = (".",)
        for _ in range(11):
            tree = ("row", tree, tree)
        self.assertEqual(write("ab", tree).count("."), 2048)

    def test_what_is_no_tree(self):
        deep = A
        for _ in range(19):
            deep = ("*", deep)
        self.assertEqual(write("a", deep), "a" + "*" * 19)
        for thing in (None, True, 5, "", "a", (), [], ("a",), ("sign",), ("sign", "d"), ("sign", ""), ("sign", "ab"),
                      ("sign", "A"), ("sign", 5), ("sign", True), ("sign", ("a",)), ("sign", "a", "b"), ("1", A), ("0", ()),
                      (".", "a"), ("|",), ("|", A), ("|", A, B, C), ("*",), ("*", A, B), ("row", A), ("row", "a", "b"),
                      ("(", A), (")",), ("+", A, B), (">>>", A, B), ("sign a",), (A,), (A, B), ("", A), ("1", "1"),
                      (True,), (1,), (0,), (None, A), ("*", deep), ("|", deep, A), ("|", A, ("*", deep)), {"1": 1}, b"1",
                      ("*", None), ("|", A, ("sign", "d")), ("|", ("sign", "d"), A), "1", ("*", "1"), "sign", (b"1",)):
            for told in (thing, listed(thing) if isinstance(thing, tuple) else thing):
                with self.assertRaises(BadTree):
                    write("abc", told)
        for thing in NO_SIGNS:
            for tree in (A, None, ("sign", "z")):
                with self.assertRaises(BadSigns) as caught:
                    write(thing, tree)
                self.assertIs(caught.exception.thing, thing)


if __name__ == "__main__":
    unittest.main()
