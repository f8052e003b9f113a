"""Point [1] over the whole interface: errors and their order, lists in the place of tuples, what is kept."""

import copy
import unittest

from lotkit import GROUP, NOTHING, chain, loop
from shrunkalike import automata, cancelling, carrying, closing, groupoids, groupparts, settling, singles
from shrunkalike.automata import accepts, checked_automaton, least_automaton, within
from shrunkalike.booklines import read_book, write_book
from shrunkalike.books import Book
from shrunkalike.conditions import solutions
from shrunkalike.desks import Desk
from shrunkalike.errors import (BadAutomaton, BadSigns, BadText, NotSettled, ShrunkError, Unlike, WrongItem, WrongThing)
from shrunkalike.expressions import parse, write
from shrunkalike.lots import Lot, alike, lies_within, meaning, single, whole
from shrunkalike.measures import measured
from shrunkalike.origins import all_end, origin
from shrunkalike.plainly import plainly
from shrunkalike.plays import Play
from shrunkalike.powers import power, powers
from shrunkalike.prices import cheapest, price_table
from shrunkalike.quotients import between, every_ahead, every_behind, some_ahead, some_behind
from shrunkalike.readers import Reader
from shrunkalike.samegroups import same_group
from shrunkalike.sayings import Saying
from shrunkalike.sendings import Sending
from shrunkalike.shrinking import ends, played, shrinks, step, steps
from shrunkalike.tables import table
from shrunkalike.values import value, value_of

LOOSE = Book("ab", (("aa", "b"),))
OTHER = Book("xyz", (("xx", "y"),))
RING = (2, ((0, "", 1), (0, "a", 1), (1, "b", 0)), (0, 1))
ALL = whole(GROUP)
A = single(GROUP, "a")
READER = Reader(A)
SAYING = Saying(A, (("some", "behind", ALL),))
NO_TEXTS = (True, False, None, 0, 5, 1.5, b"a", ("a",), ["a"], {"a": 1}, "c", "A", "a b", " ", "a\n", "a" * 201)

# Each takes a book that must be settled, and a thing that is wrong wherever it stands.
SETTLED = {
    "least_book": lambda book, thing: settling.least_book(book),
    "same_ends": settling.same_ends, "says": settling.says, "Lot": Lot, "whole": lambda book, thing: whole(book),
    "single": single, "meaning": meaning, "alike": lambda book, thing: alike(book, thing, thing),
    "solutions": solutions, "undoings": singles.undoings, "units": lambda book, thing: singles.units(book),
    "is_group": lambda book, thing: singles.is_group(book),
    "divides": lambda book, thing: singles.divides(book, thing, thing),
    "cancels_ahead": lambda book, thing: cancelling.cancels_ahead(book),
    "cancels_behind": lambda book, thing: cancelling.cancels_behind(book),
    "exchanges": lambda book, thing: cancelling.exchanges(book), "powers": powers,
    "power": lambda book, thing: power(book, thing, thing), "table": lambda book, thing: table(book),
    "undo_signs": lambda book, thing: groupoids.undo_signs(book),
    "places": lambda book, thing: groupoids.places(book), "undone": groupoids.undone,
    "parts": lambda book, thing: groupparts.parts(book), "standard": lambda book, thing: groupparts.standard(book),
    "same_group": same_group, "order": carrying.order, "root": carrying.root, "exchanging": carrying.exchanging,
    "carried": lambda book, thing: carrying.carried(book, thing, thing),
    "Sending": lambda book, thing: Sending(book, GROUP, thing),
    "Sending into": lambda book, thing: Sending(GROUP, book, thing),
    "Sending both": lambda book, thing: Sending(book, OTHER, thing),
    "value": value, "value_of": value_of,
}

# Each takes one text over a and b; what stands behind it, if anything, is wrong as well.
TEXTS = {
    "accepts": lambda thing: accepts("ab", RING, thing), "book": lambda thing: GROUP(thing),
    "steps": lambda thing: steps(GROUP, thing), "step": lambda thing: step(GROUP, thing, None, None),
    "played": lambda thing: played(GROUP, thing, None), "shrinks": lambda thing: shrinks(GROUP, thing),
    "ends": lambda thing: ends(GROUP, thing), "in": lambda thing: thing in ALL,
    "single": lambda thing: single(GROUP, thing), "meaning": lambda thing: meaning(GROUP, thing),
    "alike one": lambda thing: alike(GROUP, thing, 7.5), "alike other": lambda thing: alike(GROUP, "a", thing),
    "best": lambda thing: SAYING.best(0, thing), "Play": lambda thing: Play(SAYING, thing),
    "pick": lambda thing: Play(SAYING, "").pick(thing), "undoings": lambda thing: singles.undoings(GROUP, thing),
    "divides one": lambda thing: singles.divides(GROUP, thing, 7.5),
    "divides other": lambda thing: singles.divides(GROUP, "", thing), "powers": lambda thing: powers(GROUP, thing),
    "power one": lambda thing: power(GROUP, thing, 7.5), "power other": lambda thing: power(GROUP, "", thing),
    "undone": lambda thing: groupoids.undone(GROUP, thing), "order": lambda thing: carrying.order(GROUP, thing),
    "root": lambda thing: carrying.root(GROUP, thing), "exchanging": lambda thing: carrying.exchanging(GROUP, thing),
    "carried one": lambda thing: carrying.carried(GROUP, thing, 7.5),
    "carried other": lambda thing: carrying.carried(GROUP, "", thing),
    "sending": lambda thing: Sending(GROUP, GROUP, ("a", "b"))(thing), "right": READER.right, "fault": READER.fault,
    "wanted": READER.wanted, "completion": READER.completion,
    "fillings one": lambda thing: READER.fillings(thing, 7.5), "fillings other": lambda thing: READER.fillings("", thing),
    "mending": lambda thing: READER.mending(thing, None, None),
}

# Each takes an automaton over a and b; what stands behind it, if anything, is wrong as well.
AUTOMATA = {
    "checked_automaton": lambda thing: checked_automaton("ab", thing), "accepts": lambda thing: accepts("ab", thing, None),
    "least_automaton": lambda thing: least_automaton("ab", thing), "within one": lambda thing: within("ab", thing, None),
    "within other": lambda thing: within("ab", RING, thing), "closed_edges": lambda thing: closing.closed_edges(LOOSE, thing),
    "descends": lambda thing: closing.descends(LOOSE, thing), "closing": lambda thing: closing.closing(LOOSE, thing),
    "judge_closing": lambda thing: closing.judge_closing(LOOSE, thing, None),
    "origin": lambda thing: origin(LOOSE, thing, None), "all_end one": lambda thing: all_end(LOOSE, thing, None),
    "all_end other": lambda thing: all_end(LOOSE, RING, thing),
    "price_table": lambda thing: price_table(LOOSE, (1,), (), thing),
    "cheapest one": lambda thing: cheapest(LOOSE, (1,), (), thing, None),
    "cheapest other": lambda thing: cheapest(LOOSE, (1,), (), RING, thing), "Lot": lambda thing: Lot(GROUP, thing),
    "all_right": READER.all_right,
}
NO_AUTOMATA = ((None, -1), (True, -1), ("", -1), ((1, ()), -1), ((True, (), ()), -1), ((0, (), ()), -1), ((41, (), ()), -1),
               ((1, None, ()), -1), ((1, (), 5), -1), ((1, "", ()), -1), ((2, ((0, "c", 1),), (9,)), 0),
               ((2, ((0, "a", True),), ()), 0), ((2, ((0, "a", 1), (0, "a", 0)), ()), 1), ((2, ((0, "a", 1),), (1, 1)), 2),
               ([2, [[0, "a", 1]], [False]], 1), ((2, ("0a1",), ()), 0))


def read_only(tree):
    """Lists in the place of tuples, at any depth."""
    return [read_only(part) for part in tree] if isinstance(tree, tuple) else tree


def changed(tree):
    """Everything in the lists is changed."""
    for part in tree:
        if isinstance(part, list):
            changed(part)
    tree.append(None)
    tree[0] = "changed"


def no_lists(tree):
    return not isinstance(tree, list) and (not isinstance(tree, tuple) or all(no_lists(part) for part in tree))


class SettledTest(unittest.TestCase):
    def test_books_that_are_not_settled(self):
        for name, call in SETTLED.items():
            for thing in (None, True, 7.5, "z", "a" * 201, (), ("a",), "a"):
                if name in ("same_ends", "says", "same_group"):
                    thing = OTHER
                with self.assertRaises(NotSettled) as caught:
                    call(LOOSE, thing)
                self.assertEqual(caught.exception.text, "aaa", name)

    def test_the_other_one(self):
        for call in (settling.same_ends, settling.says, same_group):
            with self.assertRaises(NotSettled) as caught:
                call(GROUP, OTHER)
            self.assertEqual(caught.exception.text, "xxx")
        with self.assertRaises(NotSettled) as caught:
            Sending(GROUP, OTHER, None)
        self.assertEqual(caught.exception.text, "xxx")
        with self.assertRaises(NotSettled):
            Desk("ab", LOOSE.rules)

    def test_books_that_need_not_be_settled(self):
        self.assertEqual(LOOSE("aaa"), "ba")
        self.assertEqual(ends(LOOSE, "aaa"), ("ab", "ba"))
        self.assertEqual(write_book(LOOSE), ("ab", "aa>b"))
        self.assertFalse(settling.settled(LOOSE))
        for call in (closing.closed_edges, closing.descends, closing.closing):
            call(LOOSE, RING)
        cheapest(LOOSE, (1,), (), RING, RING)
        all_end(LOOSE, RING, RING)


class TextsTest(unittest.TestCase):
    def test_what_is_no_text(self):
        for name, call in TEXTS.items():
            for thing in NO_TEXTS:
                with self.assertRaises(BadText) as caught:
                    call(thing)
                self.assertIs(caught.exception.thing, thing, name)
                self.assertIsInstance(caught.exception, WrongThing)

    def test_200_signs(self):
        for name, call in TEXTS.items():
            if name in ("mending",):
                continue
            for text in ("a" * 200, "ab" * 100, ""):
                try:
                    call(text)
                except ShrunkError as wrong:
                    if isinstance(wrong, BadText):
                        self.assertIsNot(wrong.thing, text, name)

    def test_what_is_no_automaton(self):
        for name, call in AUTOMATA.items():
            for thing, place in NO_AUTOMATA:
                with self.assertRaises(BadAutomaton) as caught:
                    call(thing)
                self.assertEqual(caught.exception.place, place, (name, thing))
                self.assertIsInstance(caught.exception, WrongItem)

    def test_what_are_no_signs(self):
        calls = (lambda thing: checked_automaton(thing, None), lambda thing: accepts(thing, None, None),
                 lambda thing: least_automaton(thing, None), lambda thing: within(thing, None, None),
                 lambda thing: Book(thing, None), lambda thing: parse(thing, None), lambda thing: write(thing, None),
                 lambda thing: Desk(thing, None))
        for call in calls:
            for thing in (None, True, 5, "", "ba", "aa", "aB", "a b", "abcdefghi", ("a", "b"), ["a"], b"ab", {"a": 1}):
                with self.assertRaises(BadSigns) as caught:
                    call(thing)
                self.assertIs(caught.exception.thing, thing)


class LotsTest(unittest.TestCase):
    def test_lots_of_other_books(self):
        # Books with the same signs and ends, but not equal.
        for book in (Book("ab", (("ba", ""), ("ab", ""))), Book("abc", GROUP.rules), Book("ab", ())):
            other = whole(book)
            calls = (lambda: A | other, lambda: A & other, lambda: A - other, lambda: A * other, lambda: other * A,
                     lambda: lies_within(A, other), lambda: some_behind(A, other), lambda: every_behind(other, A),
                     lambda: some_ahead(A, other), lambda: every_ahead(other, A), lambda: between(A, A, other),
                     lambda: between(A, other, A), lambda: between(other, A, A),
                     lambda: Saying(A, (("some", "ahead", other),)),
                     lambda: Saying(A, (("some", "ahead", A), ("every", "behind", other))),
                     lambda: Sending(GROUP, GROUP, ("a", "b")).sent(other))
            for call in calls:
                with self.assertRaises(Unlike) as caught:
                    call()
                self.assertEqual(caught.exception.word, "book")
            self.assertFalse(A == other)
        same = Lot(Book("ab", [["ab", ""], ["ba", ""]]), chain("a"))
        self.assertEqual(A, same)
        self.assertEqual(A | same, A)


# Each takes things made of tuples; told is something that can be compared.
TUPLES = {
    "checked_automaton": (lambda x: checked_automaton("ab", x), RING),
    "accepts": (lambda x: accepts("ab", x, "ab"), RING),
    "least_automaton": (lambda x: least_automaton("ab", x), RING),
    "within": (lambda x: within("ab", x[0], x[1]).text, (RING, NOTHING)),
    "Book": (lambda x: Book("ab", x).rules, GROUP.rules),
    "played": (lambda x: played(GROUP, "aabb", x), ((1, 0), (0, 0))),
    "closed_edges": (lambda x: closing.closed_edges(GROUP, x), RING),
    "descends": (lambda x: closing.descends(GROUP, x), RING),
    "closing": (lambda x: closing.closing(GROUP, x), RING),
    "judge_closing": (lambda x: closing.judge_closing(GROUP, x[0], x[1]), (RING, closing.closing(GROUP, RING))),
    "origin": (lambda x: origin(GROUP, x[0], x[1]), (RING, (0, "a", 1))),
    "all_end": (lambda x: all_end(GROUP, x[0], x[1]).end, (RING, NOTHING)),
    "price_table": (lambda x: price_table(GROUP, x[0], x[1], x[2]), ((3, 4), (("", "a", 5), ("ab", "b", 0)), RING)),
    "cheapest": (lambda x: cheapest(GROUP, x[0], x[1], x[2], x[3]).run, ((3, 4), (("", "a", 5),), chain("b"), chain("aa"))),
    "Lot": (lambda x: Lot(GROUP, x).automaton, RING),
    "solutions": (lambda x: solutions(GROUP, x).automaton, (("a", "b", "a", True), ("", "", "b", False))),
    "Saying": (lambda x: tuple(turn[:2] for turn in Saying(A, x).turns),
               (("some", "ahead", A), ("every", "behind", ALL))),
    "Sending": (lambda x: Sending(GROUP, GROUP, x).images, ("ab", "b")),
    "all_right": (lambda x: READER.all_right(x).text, RING),
    "mending": (lambda x: READER.mending("ab", x[0], x[1]).run, ((3, 4), (("", "a", 5), ("ab", "b", 0)))),
    "write": (lambda x: write("ab", x), parse("ab", "a|b*>>(1.&0)")),
    "value": (lambda x: value(GROUP, x).automaton, parse("ab", "a|b*>>(1.&0)")),
    "read_book": (lambda x: read_book(x).rules, ("ab", "ab>", "ba>")),
    "Desk": (lambda x: Desk("ab", x).current_book.rules, GROUP.rules),
}


class TuplesTest(unittest.TestCase):
    def test_lists_in_the_place_of_tuples(self):
        for name, (call, told) in TUPLES.items():
            lists = read_only(told)
            before = copy.copy(lists) if name == "Saying" else copy.deepcopy(lists)
            found = call(lists)
            self.assertEqual(found, call(told), name)
            self.assertTrue(no_lists(found), name)
            self.assertEqual(lists, before, name)

    def test_what_is_kept_is_not_changed_with_the_lists(self):
        rules, automaton, images = read_only(GROUP.rules), read_only(RING), ["ab", "b"]
        turns = [["some", "ahead", A], ["every", "behind", ALL]]
        book, lot, sending, saying = Book("ab", rules), Lot(GROUP, automaton), Sending(GROUP, GROUP, images), Saying(A, turns)
        desk = Desk("ab", rules)
        claim = [["some", "ahead", "a*"]]
        desk.add_claim("x", claim, "1")
        told = lot.automaton
        for lists in (rules, automaton, images, turns, claim):
            changed(lists)
        self.assertEqual((book.rules, lot.automaton, sending.images), (GROUP.rules, told, ("ab", "b")))
        self.assertEqual(saying.turns, (("some", "ahead", A), ("every", "behind", ALL)))
        self.assertEqual((desk.current_book, desk.claims), (GROUP, (("x", (("some", "ahead", "a*"),), "1"),)))
        for thing in (book.rules, lot.automaton, sending.images, saying.turns, desk.claims, desk.verdicts):
            self.assertTrue(no_lists(thing))

    def test_a_string_is_no_tuple(self):
        for call, told in ((Book, ("ab", "")), (Lot, (GROUP, "abc")), (solutions, (GROUP, "")), (Saying, (A, "")),
                           (Sending, (GROUP, GROUP, "ab")), (read_book, ("ab",)), (Desk, ("ab", "")),
                           (closing.closed_edges, (GROUP, "012")), (price_table, (GROUP, "ab", (), RING)),
                           (cheapest, (GROUP, (1, 1), "", RING, RING)), (played, (GROUP, "ab", "")),
                           (READER.mending, ("a", "00", ())), (Desk("ab", ()).add_claim, ("x", "", "1"))):
            with self.assertRaises(WrongItem) as caught:
                call(*told)
            self.assertEqual(caught.exception.place, -1)

    def test_what_is_told_are_tuples(self):
        told = [automata.checked_automaton("ab", read_only(RING)), steps(GROUP, "abba"), shrinks(GROUP, "ab"),
                ends(GROUP, "ab"), settling.settled(GROUP).meets, settling.settled(LOOSE).ends, ALL.listed(5), ALL.automaton,
                measured(ALL).ring, plainly(A, 1).meanings, plainly(A, 1).parting, singles.undoings(GROUP, "a"),
                singles.divides(GROUP, "a", "b"), table(Book("a", (("aa", ""),))).rows, table(GROUP).ring,
                groupoids.places(GROUP), groupparts.parts(GROUP).tables, groupparts.standard(GROUP).there,
                same_group(GROUP, GROUP).back, same_group(GROUP, Book("a", (("aa", ""),))).reason,
                carrying.root(GROUP, "aa"), READER.wanted("a"), parse("ab", "a|b"), write_book(GROUP), Play(SAYING, "").picks,
                Desk("ab", ()).claims, Desk("ab", ()).add_rule("ab", "")]
        for thing in told:
            self.assertIs(type(thing), tuple)
            self.assertTrue(no_lists(thing))


class EqualTest(unittest.TestCase):
    def test_things_of_another_kind(self):
        for thing in (GROUP, A, Sending(GROUP, GROUP, ("a", "b"))):
            for other in (None, True, 5, "ab", (), ("ab", GROUP.rules), [], {}, ALL, LOOSE, NOTHING, loop("a")):
                self.assertIs(thing == other, False)
                self.assertIs(thing != other, True)
            self.assertIs(thing == thing, True)


class VerdictsTest(unittest.TestCase):
    def test_each_verdict(self):
        two = Book("a", (("aa", ""),))
        free = Book("ab", ())
        pairs = [
            (within("ab", NOTHING, RING), within("ab", RING, NOTHING), "", "text"),
            (settling.settled(GROUP), settling.settled(LOOSE), "meets", "text ends"),
            (settling.same_ends(GROUP, GROUP), settling.same_ends(GROUP, free), "", "text one_end other_end"),
            (settling.says(GROUP, free), settling.says(free, GROUP), "", "number"),
            (all_end(GROUP, NOTHING, RING), all_end(GROUP, RING, NOTHING), "", "end text"),
            (cheapest(two, (1,), (), chain("aa"), chain("")), cheapest(two, (1,), (), chain("a"), chain("")),
             "price text goal_text run", ""),
            (lies_within(A, ALL), lies_within(ALL, A), "", "end"),
            (measured(A), measured(ALL), "number longest", "ring"),
            (plainly(ALL, 1), plainly(A, 1), "automaton", "meanings parting"),
            (cancelling.cancels_ahead(GROUP), cancelling.cancels_ahead(Book("ab", (("aa", "a"), ("ab", "b")))), "",
             "sign pair"),
            (cancelling.exchanges(GROUP), cancelling.exchanges(free), "", "pair"),
            (table(two), table(GROUP), "ends rows", "ring"),
            (same_group(GROUP, GROUP), same_group(GROUP, two), "there back", "reason"),
            (Sending(GROUP, GROUP, ("a", "b")).keeps(), Sending(GROUP, free, ("a", "b")).keeps(), "", "number"),
            (Sending(GROUP, GROUP, ("a", "b")).onto(), Sending(GROUP, free, ("a", "")).onto(), "", "sign"),
            (Reader(ALL).all_right(RING), READER.all_right(RING), "", "text at"),
            (Reader(ALL).mending("a", (0, 0), ()), READER.mending("", (0, 0), ()), "price text goal_text run", ""),
        ]
        for yes, no, mine, yours in pairs:
            self.assertTrue(yes.holds is True and no.holds is False and bool(yes) and not no)
            for word in mine.split():
                self.assertIsNotNone(getattr(yes, word), (yes, word))
                self.assertIsNone(getattr(no, word), (no, word))
            for word in yours.split():
                self.assertIsNone(getattr(yes, word), (yes, word))
                self.assertIsNotNone(getattr(no, word), (no, word))
        self.assertTrue(SAYING.holds is True and bool(SAYING))
        self.assertTrue(SAYING.turned().holds is False and not SAYING.turned())


if __name__ == "__main__":
    unittest.main()
