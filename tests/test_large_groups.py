"""The largest inputs that the document lets, for groups, sendings, readers, expressions and desks."""

import unittest

import brute
import groupkit
from groupkit import C
from lotkit import reads
from shrunkalike.books import Book, over
from shrunkalike.carrying import carried, exchanging, order, root
from shrunkalike.desks import Desk
from shrunkalike.errors import HasOrder, TooMany
from shrunkalike.expressions import parse, write
from shrunkalike.groupoids import undone, undone_lot
from shrunkalike.groupparts import standard
from shrunkalike.lots import Lot, single, whole
from shrunkalike.readers import Reader
from shrunkalike.sendings import Sending
from shrunkalike.values import value
from test_large_lots import FREE, FREE_GROUP, SIGNS, UNDO, apart, some_text


class GroupsTest(unittest.TestCase):
    def test_texts_of_200_signs(self):
        chance = brute.made(1)
        for groups in ([(C[1], 2)] * 4, [(C[1], 3), (C[2], 1)], [(C[2], 2), (C[3], 1)], [(C[2], 1)] * 8, [(C[9], 1)]):
            book, _ = groupkit.group_book(chance, groups, 6)
            for _ in range(4):
                text = "".join(chance.choice(book.signs) for _ in range(200))
                self.assertEqual(over(book, text + undone(book, text)), "")
                turned = text[130:] + text[:130]
                told = carried(book, text, turned)
                self.assertEqual(over(book, text + told), over(book, told + turned))
                number = order(book, text)
                if number is None:
                    piece, many = root(book, text)
                    self.assertEqual(over(book, piece * many), over(book, text))
                else:
                    self.assertEqual(over(book, text * number), "")
                    with self.assertRaises(HasOrder):
                        root(book, text)
                try:
                    for end in exchanging(book, text).listed(5):
                        self.assertEqual(over(book, end + text), over(book, text + end))
                except TooMany:
                    self.assertIsNone(number)

    def test_texts_turned_by_long_ones(self):
        x = over(FREE_GROUP, some_text(1, 90))
        for inner, many in (("a", 20), ("ac", 10), ("aceg", 5)):
            text = x + inner * many + "".join(UNDO[sign] for sign in x[::-1])
            piece, number = root(FREE_GROUP, text[:200])
            self.assertEqual(over(FREE_GROUP, piece * number), over(FREE_GROUP, text[:200]))
            if len(text) <= 200:
                self.assertEqual(number, many)
                told = carried(FREE_GROUP, text, inner * many)
                self.assertEqual(over(FREE_GROUP, text + told), over(FREE_GROUP, told + inner * many))
                self.assertIn(piece[:200], exchanging(FREE_GROUP, text))

    def test_lots_of_400_states(self):
        long = single(FREE_GROUP, "aceg" * 50) * single(FREE_GROUP, "eg" * 99 + "e")
        self.assertEqual(undone_lot(long).listed(1), ("f" + "hf" * 99 + "hfdb" * 50,))
        self.assertEqual(undone_lot(undone_lot(long)), long)


class SendingsTest(unittest.TestCase):
    def test_images_of_200_signs(self):
        images = tuple(some_text(seed) for seed in range(8))
        sending = Sending(FREE, FREE_GROUP, images)
        self.assertEqual(sending(SIGNS * 25), over(FREE_GROUP, "".join(images) * 25))
        self.assertEqual(sending.onto().sign, "a")
        self.assertTrue(sending.keeps())
        with self.assertRaises(TooMany):
            sending.sent(whole(FREE))
        self.assertEqual(Sending(FREE_GROUP, FREE_GROUP, images).keeps().number, 0)
        twice = Sending(FREE, FREE, images) * Sending(FREE, FREE, images)
        self.assertEqual([len(image) for image in twice.images], [40000] * 8)
        self.assertEqual(len((twice * sending)("a")), len(over(FREE_GROUP, (twice * sending).images[0])))

    def test_a_sign_that_takes_up_all_others(self):
        # Nearly all pairs of places of the images have closed edges.
        book = Book(SIGNS, tuple((x + "h", "h") for x in SIGNS[:7]) + tuple(("h" + x, "h") for x in SIGNS))
        chance = brute.made(2)
        images = ["".join(chance.choice(SIGNS[:7]) for _ in range(200)) for _ in range(7)]
        sending = Sending(FREE, book, images + ["h"])
        self.assertEqual(sending.onto().sign, "a")
        self.assertEqual(sending("abhc"), "h")
        group = Book("ab", (("ab", ""), ("ba", "")))
        powers = ["a" * 200, "b" * 199, "a" * 150, "b" * 163, "", "a" * 6, "b" * 10, "a" * 15]
        self.assertTrue(Sending(FREE, group, powers).onto())
        self.assertEqual(Sending(FREE, group, ["a" * 200, "b" * 198] * 4).sent(whole(FREE)).listed(3), ("", "aa", "bb"))

    def test_turned_by_a_long_text(self):
        x = over(FREE_GROUP, some_text(3, 150))[:95]
        back = "".join(UNDO[sign] for sign in x[::-1])
        there = Sending(FREE_GROUP, FREE_GROUP, tuple(x + sign + back for sign in SIGNS))
        home = Sending(FREE_GROUP, FREE_GROUP, tuple(back + sign + x for sign in SIGNS))
        self.assertTrue(there.keeps() and home.keeps() and there.onto())
        self.assertTrue(there.undone_by(home) and home.undone_by(there))
        self.assertEqual((there * home).images, tuple(SIGNS))
        self.assertEqual(there.sent(whole(FREE_GROUP)), whole(FREE_GROUP))

    def test_standard_books(self):
        chance = brute.made(5)
        for groups in groupkit.SHAPES[-8:]:
            book, _ = groupkit.group_book(chance, groups, 9)
            told = standard(book)
            there, back = Sending(book, told.book, told.there), Sending(told.book, book, told.back)
            self.assertTrue(there.keeps() and back.keeps() and there.undone_by(back))


class ReadersTest(unittest.TestCase):
    def dense(self):
        chance = brute.made(6)
        known = [(p, x, q) for p in range(40) for x in SIGNS for q in range(40)]
        return (40, tuple(sorted(chance.sample(known, 400))), tuple(range(40)))

    def test_many_states(self):
        for book in (FREE, FREE_GROUP, apart(2, "abcd", 4, ["", "a", "e"])):
            goal = single(book, some_text(5, 180)) * single(book, some_text(6, 100))
            end = goal.least()
            reader, other = Reader(goal), Reader(whole(book) - goal)
            self.assertEqual(reader.completion(end[:100]), end[100:])
            self.assertEqual(reader.fault(end[:150]), 150)
            self.assertIn(over(book, end[90:]), reader.fillings(end[:90], ""))
            self.assertEqual(reader.all_right(self.dense()).text, "")
            told = other.all_right((1, tuple((0, x, 0) for x in SIGNS), (0,))) if len(end) <= 200 else None
            if told is not None:
                self.assertEqual((told.text, told.at is None), (end, False))

    def test_long_mendings(self):
        book = apart(2, "abcd", 4, ["", "a", "e"])
        goal = single(book, some_text(5, 150))
        text = some_text(7, 39)
        mends = [(left, right, 20 + at) for at, (left, right) in enumerate([(x, y) for x in [""] + list(SIGNS)
                                                                            for y in SIGNS if x != y][:64])]
        told = Reader(goal).mending(text, (7,) * 64, mends)
        deeds = [(left, right, 7) for left, right in book.rules] + mends
        self.assertEqual(sum(deeds[number][2] for _, number in told.run), told.price)
        for step in told.run:
            self.assertIn(step, brute.steps(deeds, text))
            text = brute.after(deeds, text, step)
        self.assertEqual(text, told.goal_text)
        self.assertTrue(reads(goal.automaton, text))


class ExpressionsTest(unittest.TestCase):
    def test_parts_that_stand_there_often(self):
        tree = ("sign", "a")
        for _ in range(19):
            tree = ("|", tree, tree)
        self.assertEqual(value(FREE, tree), single(FREE, "a"))
        self.assertEqual(write(SIGNS, tree).count("a"), 2 ** 19)

    def test_deep_ones(self):
        for form in ("|", "&", "-", ">", ">>", "<", "<<", "row"):
            tree = other = ("sign", "a")
            for _ in range(19):
                tree, other = (form, tree, ("sign", "b")), (form, ("sign", "b"), other)
            for told in (tree, other):
                self.assertEqual(parse(SIGNS, write(SIGNS, told)), told)
                value(FREE_GROUP, told)


class DesksTest(unittest.TestCase):
    def test_20_claims_of_6_turns(self):
        book = apart(1, "ab", 4, list(SIGNS))
        desk = Desk(book.signs, book.rules)
        turns = [("some", "ahead", "(a|b)*c"), ("every", "behind", "c|d|e"), ("some", "behind", ".-a."),
                 ("every", "ahead", "a(b|1)"), ("some", "behind", "1<(c|d)"), ("every", "behind", "c*&(1|cc)")]
        for title in SIGNS + "ijklmnopqrst":
            self.assertEqual(desk.add_claim(title, turns, title + "*|.c" if title in SIGNS else ".(c|d)"), ())
        self.assertEqual(len(desk.verdicts), 20)
        before = desk.verdicts
        turned = desk.strike_rule(5)
        self.assertEqual(turned, tuple(sorted(title for title, holds in desk.verdicts if dict(before)[title] != holds)))
        desk.undo()
        self.assertEqual(desk.verdicts, before)


if __name__ == "__main__":
    unittest.main()
