"""Point [36]: desks, their deeds, and what turns."""

import unittest
from unittest import mock

import brute
from lotkit import BOOKS, GROUP, LOOSE, some_books
from shrunkalike import least
from shrunkalike.books import Book
from shrunkalike.desks import Desk
from shrunkalike.errors import (BadExpression, BadNumber, BadRule, BadSigns, BadText, BadTitle, BadTurn, NoDeed,
                                NotSettled, ShrunkError, TooMany, Twice, Unknown)
from shrunkalike.sayings import Saying
from shrunkalike.values import value_of
from test_values import WIDE

UNDOING = (("every", "behind", "a*"), ("some", "behind", "b*"))
FOUR = tuple(x + y + z for x in "abcd" for y in "abcd" for z in "abcd")


def shown(desk):
    return (desk.current_book.signs, desk.current_book.rules, desk.claims, desk.verdicts)


def verdict(book, claim):
    _, turns, goal = claim
    return bool(Saying(value_of(book, goal), tuple((hand, side, value_of(book, text)) for hand, side, text in turns)))


def some_desk():
    desk = Desk("ab", (("ab", ""),))
    desk.add_claim("undo", UNDOING, "1")
    desk.add_claim("both", (("some", "ahead", "ba"),), "1")
    desk.add_claim("plain", (), ".")
    return desk


class DeskCase(unittest.TestCase):
    def assert_bad(self, desk, error, attribute, told, deed, *passed):
        """The deed raises this error, and nothing has changed."""
        before = shown(desk)
        with self.assertRaises(error) as caught:
            deed(*passed)
        found = getattr(caught.exception, attribute)
        self.assertTrue(found is told or found == told, (found, told))
        self.assertIs(type(found), type(told))
        self.assertEqual(shown(desk), before)


class MadeTest(DeskCase):
    def test_made(self):
        rules = [["ab", ""], ["ba", ""]]
        desk = Desk(signs="ab", rules=rules)
        rules[0][1] = "a"
        self.assertEqual(desk.current_book, GROUP)
        self.assertIsInstance(desk.current_book, Book)
        self.assertEqual((desk.claims, desk.verdicts), ((), ()))

    def test_errors(self):
        for thing in ("", "ba", None, True, "A"):
            with self.assertRaises(BadSigns) as caught:
                Desk(thing, None)
            self.assertIs(caught.exception.thing, thing)
        for rules, place in ((None, -1), ((("aa", "a"), ("a", "b")), 1), ((("ab", ""), ["ab", ""]), 1), ([("c", "")], 0)):
            with self.assertRaises(BadRule) as caught:
                Desk("ab", rules)
            self.assertEqual(caught.exception.place, place)
        with self.assertRaises(NotSettled) as caught:
            Desk("ab", LOOSE.rules)
        self.assertEqual(caught.exception.text, "aaa")


class RulesTest(DeskCase):
    def test_put_in_and_taken_out(self):
        desk = some_desk()
        self.assertEqual(desk.verdicts, (("undo", True), ("both", False), ("plain", True)))
        self.assertEqual(desk.add_rule(left="ba", right=""), ("both",))
        self.assertEqual(desk.current_book, Book("ab", (("ab", ""), ("ba", ""))))
        self.assertEqual(desk.verdicts, (("undo", True), ("both", True), ("plain", True)))
        self.assertEqual(desk.add_rule("baba", ""), ())
        self.assertEqual(desk.strike_rule(number=0), ("undo",))
        self.assertEqual(desk.current_book.rules, (("ba", ""), ("baba", "")))

    def test_taken_out(self):
        desk = some_desk()
        desk.add_rule("ba", "")
        self.assertEqual(desk.strike_rule(0), ("undo",))
        self.assertEqual(desk.current_book.rules, (("ba", ""),))
        self.assertEqual(desk.strike_rule(0), ("both",))
        self.assertEqual(desk.current_book.rules, ())
        self.assertEqual(desk.verdicts, (("undo", False), ("both", False), ("plain", True)))

    def test_what_is_no_rule(self):
        desk = some_desk()
        for left, right in ((None, ""), ("ab", None), ("", ""), ("a", "b"), ("aaaaa", ""), ("ab", "ab"), ("c", ""), ("ab", ""),
                            (True, False), (["ab"], ""), ("A", ""), (("a", "b"), "a"), (5, 5), ("aa", "c")):
            self.assert_bad(desk, BadRule, "place", 1, desk.add_rule, left, right)
        desk.add_rule("ba", "")
        for left, right in (("ab", ""), ("ba", ""), (None, None)):
            self.assert_bad(desk, BadRule, "place", 2, desk.add_rule, left, right)

    def test_what_would_unsettle_the_book(self):
        desk = some_desk()
        self.assert_bad(desk, NotSettled, "text", "aba", desk.add_rule, "ba", "a")
        self.assert_bad(desk, NotSettled, "text", "aaa", desk.add_rule, "aa", "b")
        desk = Desk("abc", (("ab", "c"), ("ba", "c"), ("ca", "b"), ("ac", "b"), ("aa", ""), ("bb", ""), ("cc", ""),
                            ("bc", "a"), ("cb", "a")))
        for number in range(9):
            text = Book("abc", desk.current_book.rules[:number] + desk.current_book.rules[number + 1:]).quarrel
            self.assertIsNotNone(text)
            self.assert_bad(desk, NotSettled, "text", text, desk.strike_rule, number)

    def test_64_rules(self):
        rules = [(left, "") for left in FOUR[:63]]
        desk = Desk("abcd", [("a", ""), ("b", ""), ("c", ""), ("d", "")] + rules[:60])
        self.assertEqual(len(desk.current_book), 64)
        for left, right in (("abab", ""), ("ab", "a"), ("ab", "")):
            self.assert_bad(desk, TooMany, "word", "rule", desk.add_rule, left, right)
        for left, right in (("a", ""), ("aaa", ""), ("z", ""), (None, 5)):
            self.assert_bad(desk, BadRule, "place", 64, desk.add_rule, left, right)
        self.assertEqual(desk.strike_rule(63), ())
        self.assertEqual(desk.add_rule("abab", ""), ())
        self.assertEqual(len(desk.current_book), 64)

    def test_wrong_numbers(self):
        desk = some_desk()
        for thing in (-1, 1, 10 ** 59, True, False, None, "0", (0,)):
            self.assert_bad(desk, BadNumber, "thing", thing, desk.strike_rule, thing)
        desk.strike_rule(0)
        self.assert_bad(desk, BadNumber, "thing", 0, desk.strike_rule, 0)

    def test_too_many_states(self):
        desk = Desk("ab", (("a", ""), ("b", "")))
        desk.add_claim("wide", (), WIDE)
        self.assertEqual(desk.verdicts, (("wide", True),))
        # First only a's are left, then all texts.
        self.assertEqual(desk.strike_rule(0), ("wide",))
        self.assert_bad(desk, TooMany, "word", "state", desk.strike_rule, 0)
        other = Desk("ab", (("ab", ""), ("ba", "")))
        other.add_claim("x", (), "a|1")
        other.add_claim("y", (("some", "behind", "a"),), "b|1")
        with mock.patch.object(least, "MOST_KEPT_STATES", 1):
            self.assert_bad(other, TooMany, "word", "state", other.add_rule, "aba", "a")
            self.assert_bad(other, BadRule, "place", 2, other.add_rule, "ab", "")
            quarrel = Book("ab", GROUP.rules + (("aa", "b"),)).quarrel
            self.assert_bad(other, NotSettled, "text", quarrel, other.add_rule, "aa", "b")
            # The claims that are left need not be asked again.
            self.assertEqual(other.drop_claim("x"), ())
            self.assertEqual(other.undo(), ())


class ClaimsTest(DeskCase):
    def test_put_and_dropped(self):
        desk = Desk("ab", (("ab", ""),))
        turns = [["every", "behind", "a*"], ["some", "behind", "b*"]]
        self.assertEqual(desk.add_claim(title="undo", turns=turns, goal="1"), ())
        turns[0][2] = "b"
        turns.pop()
        self.assertEqual(desk.claims, (("undo", UNDOING, "1"),))
        self.assertEqual(desk.verdicts, (("undo", True),))
        desk.add_claim("x", (), "a|b")
        desk.add_claim("abcdefgh", (("some", "ahead", "b"),), "b")
        self.assertEqual(desk.verdicts, (("undo", True), ("x", False), ("abcdefgh", True)))
        self.assertEqual(desk.drop_claim(title="x"), ())
        self.assertEqual(desk.claims, (("undo", UNDOING, "1"), ("abcdefgh", (("some", "ahead", "b"),), "b")))
        self.assertEqual(desk.verdicts, (("undo", True), ("abcdefgh", True)))
        desk.add_claim("x", (), "1")
        self.assertEqual([title for title, _, _ in desk.claims], ["undo", "abcdefgh", "x"])

    def test_verdicts_are_those_of_sayings(self):
        chance = brute.made(1)
        texts = ["a", "b", "1", "0", ".", "a*", "(ab)*", "a|b", "b*a", ".-1", "1<a*", "a*>1", "a>>a*", "b(a|1)"]
        found = {True: 0, False: 0}
        for book in [told for told in BOOKS + some_books(3, 20) if "ab" in told.signs]:
            desk = Desk(book.signs, book.rules)
            for at in range(4):
                turns = tuple((chance.choice(["some", "every"]), chance.choice(["ahead", "behind"]), chance.choice(texts))
                              for _ in range(chance.randint(0, 3)))
                desk.add_claim("x" * (at + 1), turns, chance.choice(texts))
                told = desk.verdicts[-1]
                self.assertIs(type(told), tuple)
                self.assertEqual(told, ("x" * (at + 1), verdict(book, desk.claims[-1])))
                found[told[1]] += 1
        self.assertGreater(min(found.values()), 40)

    def test_errors_in_their_order(self):
        desk = some_desk()
        bad_turns, bad_goal = ("x",), "a|"
        for thing in ("", "A", "abcdefghi", "a1", "a b", None, True, 5, ("a",), ["a"], b"a", "undo!", "undo "):
            self.assert_bad(desk, BadTitle, "thing", thing, desk.add_claim, thing, None, None)
        self.assert_bad(desk, Twice, "title", "undo", desk.add_claim, "undo", None, None)
        for turns in (None, True, 5, "turns", [("some", "ahead", "a")] * 7, {}):
            self.assert_bad(desk, BadTurn, "place", -1, desk.add_claim, "new", turns, bad_goal)
        good = ("some", "ahead", "a")
        for bad in (None, "some", (), ("some", "ahead"), ("some", "ahead", "a", "b"), ("none", "ahead", "a"),
                    ("some", "under", "a"), ("ahead", "some", "a"), ("some", "ahead", ""), ("some", "ahead", "c"),
                    ("some", "ahead", "a|"), ("some", "ahead", None), ("some", "ahead", 5), ("some", "ahead", "a" * 401),
                    ("some", "ahead", "a" * 21), ("some", "ahead", "(" * 21 + "a" + ")" * 21), (True, "ahead", "a"),
                    ("some", "ahead", ("sign", "a")), (["some"], "ahead", "a"), 7, ("some", None, "a")):
            self.assert_bad(desk, BadTurn, "place", 0, desk.add_claim, "new", (bad,), bad_goal)
            self.assert_bad(desk, BadTurn, "place", 2, desk.add_claim, "new", [good, list(good), bad, bad], "a")
        for goal in (None, 5, True, ("sign", "a"), "a" * 401):
            self.assert_bad(desk, BadText, "thing", goal, desk.add_claim, "new", (good,), goal)
        for goal, place in (("a|", 2), ("", 0), ("c", 0), ("(" * 30, 30)):
            self.assert_bad(desk, BadExpression, "place", place, desk.add_claim, "new", (good,), goal)
        for goal in ("a" * 21, "(" * 21 + "a" + ")" * 21):
            self.assert_bad(desk, TooMany, "word", "depth", desk.add_claim, "new", (good,), goal)
            self.assert_bad(desk, TooMany, "word", "depth", desk.add_claim, "new", ((good[0], good[1], WIDE),), goal)
        self.assertEqual(bad_turns, ("x",))
        self.assertEqual(desk.add_claim("new", [list(good)] * 6, "a"), ())

    def test_20_claims(self):
        desk = Desk("ab", ())
        for at in range(20):
            self.assertEqual(desk.add_claim("abcdefghijklmnopqrst"[at], (), "1"), ())
        self.assert_bad(desk, TooMany, "word", "claim", desk.add_claim, "new", None, None)
        self.assert_bad(desk, Twice, "title", "t", desk.add_claim, "t", (), "1")
        self.assert_bad(desk, BadTitle, "thing", "T", desk.add_claim, "T", (), "1")
        desk.drop_claim("c")
        self.assertEqual(desk.add_claim("new", (), "0"), ())
        self.assertEqual(len(desk.verdicts), 20)

    def test_unknown_titles(self):
        desk = some_desk()
        for thing in ("x", "", "A", None, True, 5, ["undo"], ("undo",), "undo ", b"undo", {}):
            self.assert_bad(desk, Unknown, "title", thing, desk.drop_claim, thing)

    def test_too_many_states(self):
        desk = Desk("ab", ())
        for turns, goal in (((), WIDE), ((("some", "ahead", WIDE),), "1"), ((("some", "ahead", "1"), ("every", "ahead", WIDE)),
                                                                           "0"), ((), "0&" + WIDE)):
            self.assert_bad(desk, TooMany, "word", "state", desk.add_claim, "x", turns, goal)
        # The values have few states, but not all that leads to the goal behind some beginning of it.
        goal = "(a|b)" * 9 + "a" + "(a|b)" * 8
        self.assertEqual(value_of(desk.current_book, goal).automaton[0], 19)
        self.assertEqual(desk.add_claim("fine", (("some", "ahead", "(1|a|b)" * 3),), goal), ())
        self.assert_bad(desk, TooMany, "word", "state", desk.add_claim, "x", (("some", "ahead", "(1|a|b)" * 9),), goal)
        self.assertEqual(desk.verdicts, (("fine", False),))


class TurnedTest(DeskCase):
    def test_ascending(self):
        desk = Desk("ab", ())
        for title in ("z", "abc", "b", "aa", "zz"):
            desk.add_claim(title, (), "ab>1" if title != "b" else "1")
        self.assertEqual(desk.verdicts, (("z", False), ("abc", False), ("b", True), ("aa", False), ("zz", False)))
        self.assertEqual(desk.add_rule("ab", ""), ("aa", "abc", "z", "zz"))
        self.assertEqual(desk.undo(), ("aa", "abc", "z", "zz"))
        self.assertEqual(desk.redo(), ("aa", "abc", "z", "zz"))

    def test_only_claims_that_stand_both_before_and_after(self):
        desk = Desk("ab", ())
        desk.add_claim("x", (), "ab>1")
        self.assertEqual(desk.add_rule("ab", ""), ("x",))
        self.assertEqual(desk.drop_claim("x"), ())
        # Another claim of this title, with another verdict.
        self.assertEqual(desk.add_claim("x", (), "ba>1"), ())
        self.assertEqual(desk.verdicts, (("x", False),))
        self.assertEqual(desk.undo(), ())
        self.assertEqual(desk.undo(), ())
        self.assertEqual(desk.verdicts, (("x", True),))
        self.assertEqual(desk.undo(), ("x",))
        self.assertEqual(desk.undo(), ())
        self.assertEqual(desk.verdicts, ())
        self.assertEqual([desk.redo() for _ in range(4)], [(), ("x",), (), ()])
        self.assertEqual(desk.verdicts, (("x", False),))


class UndoTest(DeskCase):
    def test_none(self):
        desk = Desk("ab", ())
        self.assert_bad(desk, NoDeed, "word", "undo", desk.undo)
        self.assert_bad(desk, NoDeed, "word", "redo", desk.redo)
        desk.add_rule("ab", "")
        self.assert_bad(desk, NoDeed, "word", "redo", desk.redo)
        desk.undo()
        self.assert_bad(desk, NoDeed, "word", "undo", desk.undo)
        desk.redo()
        self.assert_bad(desk, NoDeed, "word", "redo", desk.redo)

    def test_another_deed_ends_what_can_be_done_again(self):
        desk = Desk("ab", ())
        desk.add_rule("ab", "")
        desk.add_rule("ba", "")
        desk.undo()
        # A deed that raises an error is none.
        self.assert_bad(desk, BadRule, "place", 1, desk.add_rule, "ab", "")
        self.assert_bad(desk, BadTitle, "thing", "", desk.add_claim, "", (), "1")
        self.assertEqual(desk.redo(), ())
        self.assertEqual(len(desk.current_book), 2)
        desk.undo()
        desk.add_claim("x", (), "1")
        self.assert_bad(desk, NoDeed, "word", "redo", desk.redo)
        desk.undo()
        desk.undo()
        self.assertEqual(desk.current_book.rules, ())
        self.assert_bad(desk, NoDeed, "word", "undo", desk.undo)
        self.assertEqual([desk.redo(), desk.redo()], [(), ()])
        self.assertEqual((desk.current_book.rules, desk.claims), ((("ab", ""),), (("x", (), "1"),)))

    def some_deed(self, chance, desk, kind):
        if kind == 0:
            return desk.add_rule(*chance.choice([("ab", ""), ("ba", ""), ("aa", "a"), ("bb", ""), ("b", ""), ("aba", "a")]))
        if kind == 1:
            return desk.strike_rule(chance.randint(0, 2))
        if kind == 2:
            return desk.add_claim(chance.choice("xyz"), chance.choice([(), UNDOING, (("every", "ahead", "a|b"),)]),
                                  chance.choice(["1", "ab>1", "a*", "ba>1", ".", "aa>a"]))
        if kind == 3:
            return desk.drop_claim(chance.choice("xyz"))
        return desk.undo() if kind == 4 else desk.redo()

    def test_some_deeds(self):
        chance = brute.made(2)
        found = {}
        for _ in range(80):
            desk = Desk("ab", ())
            past, coming = [], []
            for _ in range(25):
                before, kind = shown(desk), chance.randint(0, 5)
                twin = desk.twin() if chance.random() < 0.2 else None
                try:
                    turned = self.some_deed(chance, desk, kind)
                except ShrunkError as wrong:
                    word = type(wrong).__name__
                    found[word] = found.get(word, 0) + 1
                    self.assertEqual(shown(desk), before)
                    if word == "NoDeed":
                        self.assertEqual({"undo": past, "redo": coming}[wrong.word], [])
                    continue
                after = shown(desk)
                if kind == 4:
                    coming.append(before)
                    self.assertEqual(after, past.pop())
                else:
                    past.append(before)
                    coming = coming if kind == 5 else []
                    if kind == 5:
                        self.assertEqual(after, coming.pop())
                held = dict(before[3])
                self.assertEqual(turned, tuple(sorted(title for title, holds in after[3]
                                                      if title in held and held[title] != holds)))
                self.assertEqual(after[3], tuple((claim[0], verdict(desk.current_book, claim)) for claim in after[2]))
                found["turned"] = found.get("turned", 0) + len(turned)
                if twin is not None:
                    self.assertEqual(shown(twin), before)
        for word in ("BadRule", "NotSettled", "BadNumber", "Twice", "Unknown", "NoDeed", "turned"):
            self.assertGreater(found[word], 5, found)


class TwinTest(DeskCase):
    def test_same_deeds(self):
        desk = some_desk()
        desk.add_rule("ba", "")
        desk.undo()
        twin = desk.twin()
        self.assertIsInstance(twin, Desk)
        self.assertEqual(shown(twin), shown(desk))
        self.assertEqual(twin.redo(), ("both",))
        self.assertEqual(desk.current_book.rules, (("ab", ""),))
        self.assertEqual(twin.current_book.rules, (("ab", ""), ("ba", "")))
        self.assertEqual(desk.redo(), ("both",))
        for _ in range(4):
            self.assertEqual(desk.undo(), twin.undo())
        self.assert_bad(desk, NoDeed, "word", "undo", desk.undo)
        self.assert_bad(twin, NoDeed, "word", "undo", twin.undo)

    def test_deeds_of_the_one_only(self):
        desk = some_desk()
        twin = desk.twin()
        before = shown(desk)
        twin.drop_claim("undo")
        twin.strike_rule(0)
        twin.add_claim("more", (), "a")
        self.assertEqual(shown(desk), before)
        self.assert_bad(desk, NoDeed, "word", "redo", desk.redo)
        told = shown(twin)
        desk.undo()
        desk.add_rule("ba", "")
        self.assertEqual(shown(twin), told)
        third = twin.twin()
        third.undo()
        self.assertEqual(shown(twin), told)
        self.assert_bad(twin, NoDeed, "word", "redo", twin.redo)

    def test_of_a_new_desk(self):
        twin = Desk("xyz", (("xy", ""),)).twin()
        self.assertEqual(shown(twin), ("xyz", (("xy", ""),), (), ()))
        self.assert_bad(twin, NoDeed, "word", "undo", twin.undo)


if __name__ == "__main__":
    unittest.main()
