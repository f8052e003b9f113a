"""Point [31]: books sent into books."""

import unittest
from unittest import mock

import brute
import groupkit
from lotkit import BOOKS, BRACKETS, FREE, GROUP, LOOSE, NOTHING, bag, ends_of, loop, some_books, some_lot, some_text
from shrunkalike import least
from shrunkalike.books import Book, over
from shrunkalike.errors import BadImage, BadText, NotSettled, TooMany, Unlike
from shrunkalike.groupparts import standard
from shrunkalike.lots import Lot, single, whole
from shrunkalike.sendings import Keeps, Onto, Sending

FREE_GROUP = Book("abcd", (("ab", ""), ("ba", ""), ("cd", ""), ("dc", "")))
ONE = Book("a", ())


def some_sending(chance, longest=3):
    one, other = chance.choice(BOOKS), chance.choice(BOOKS)
    return Sending(one, other, tuple(some_text(chance, other, longest) for _ in one.signs))


def put(sending, text):
    """The images of the signs, one behind the other, as they stand there."""
    return "".join(sending.images[sending.one.signs.index(sign)] for sign in text)


def all_images(sending, longest):
    """All images of texts that are at most so long, on the way as well."""
    found, level = {""}, [""]
    while level:
        made = {over(sending.other, text + image) for text in level for image in sending.images}
        level = [text for text in made if len(text) <= longest and text not in found]
        found.update(level)
    return found


class MadeTest(unittest.TestCase):
    def test_attributes(self):
        images = ["ab", "b"]
        told = Sending(one=FREE, other=GROUP, images=images)
        images[0] = "a"
        self.assertEqual((told.one, told.other, told.images), (FREE, GROUP, ("ab", "b")))
        self.assertIs(type(told.images), tuple)

    def test_wrong_images(self):
        for thing in (None, 5, True, "ab", ("a",), ("a", "b", "a"), [], {"a": "b"}):
            with self.assertRaises(BadImage) as caught:
                Sending(FREE, GROUP, thing)
            self.assertEqual(caught.exception.place, -1)
        for thing in (None, True, 3, "c", "A", ("a",), ["a"], b"a", "a" * 201):
            for place, images in enumerate([(thing, "a"), ["a", thing]]):
                with self.assertRaises(BadImage) as caught:
                    Sending(FREE, GROUP, images)
                self.assertEqual(caught.exception.place, place)
            with self.assertRaises(BadImage) as caught:
                Sending(FREE, GROUP, (thing, thing))
            self.assertEqual(caught.exception.place, 0)
        self.assertEqual(Sending(FREE, GROUP, ("a" * 200, "")).images, ("a" * 200, ""))

    def test_books_that_are_not_settled(self):
        other = Book("ab", (("bb", "a"),))
        self.assertEqual((LOOSE.quarrel, other.quarrel), ("aaa", "bbb"))
        for one, two, text in ((LOOSE, FREE, "aaa"), (FREE, LOOSE, "aaa"), (LOOSE, other, "aaa"), (other, LOOSE, "bbb")):
            for images in (("a", "b"), None, ("a", 5)):
                with self.assertRaises(NotSettled) as caught:
                    Sending(one, two, images)
                self.assertEqual(caught.exception.text, text)

    def test_equal_ones(self):
        told = Sending(FREE, GROUP, ("ab", "b"))
        self.assertTrue(told == Sending(FREE, GROUP, ["ab", "b"]))
        # The image of a means the same, but does not stand there so.
        self.assertFalse(told == Sending(FREE, GROUP, ("", "b")))
        self.assertFalse(told == Sending(GROUP, GROUP, ("ab", "b")))
        self.assertFalse(told == Sending(FREE, BRACKETS, ("ab", "b")))
        for thing in (None, 5, "ab", ("ab", "b"), FREE, (FREE, GROUP, ("ab", "b"))):
            self.assertFalse(told == thing)
            self.assertTrue(told != thing)


class ImageTest(unittest.TestCase):
    def test_against_the_images_one_behind_the_other(self):
        chance = brute.made(1)
        for _ in range(300):
            told = some_sending(chance)
            for _ in range(4):
                text = some_text(chance, told.one, 8)
                self.assertEqual(told(text), brute.ends(told.other.rules, put(told, text))[0])

    def test_the_text_is_sent_as_it_was_passed(self):
        told = Sending(GROUP, FREE, ("a", "b"))
        self.assertEqual(told("ab"), "ab")
        self.assertEqual(told(text=""), "")

    def test_wrong_texts(self):
        told = Sending(Book("ab", ()), Book("cd", ()), ("c", "d"))
        for thing in (None, True, 5, "c", ["a"], "a" * 201):
            with self.assertRaises(BadText) as caught:
                told(thing)
            self.assertIs(caught.exception.thing, thing)

    def test_long_images(self):
        told = Sending(ONE, FREE, ("ab" * 100,))
        self.assertEqual(told("a" * 200), "ab" * 20000)
        told = Sending(FREE, GROUP, ("a" * 200, "b" * 199))
        self.assertEqual(told("ab" * 100), "a" * 100)
        self.assertEqual(told("a" * 100 + "b" * 100), "a" * 100)
        told = Sending(FREE, FREE_GROUP, ("ac" * 100, "db" * 100))
        self.assertEqual(told("aab"), "ac" * 100)
        self.assertEqual(told("aababbab"), "")


class KeepsTest(unittest.TestCase):
    def test_by_hand(self):
        told = Sending(GROUP, GROUP, ("b", "a")).keeps()
        self.assertIsInstance(told, Keeps)
        self.assertTrue(told.holds is True and told.number is None and bool(told))
        told = Sending(GROUP, BRACKETS, ("a", "b")).keeps()
        self.assertTrue(told.holds is False and told.number == 1 and not told)
        self.assertEqual(Sending(GROUP, FREE, ("a", "b")).keeps().number, 0)
        self.assertTrue(Sending(FREE, FREE, ("ab", "")).keeps().holds)

    def test_first_rule(self):
        chance = brute.made(2)
        found = {True: 0, False: 0}
        for _ in range(400):
            told = some_sending(chance, 2)
            wrong = [number for number, (left, right) in enumerate(told.one.rules)
                     if over(told.other, put(told, left)) != over(told.other, put(told, right))]
            verdict = told.keeps()
            self.assertEqual((verdict.holds, verdict.number), (not wrong, wrong[0] if wrong else None))
            found[verdict.holds] += 1
            if verdict:
                for _ in range(3):
                    text = some_text(chance, told.one, 8)
                    self.assertEqual(told(text), told(told.one(text)))
        self.assertGreater(min(found.values()), 60)


class OntoTest(unittest.TestCase):
    def test_by_hand(self):
        told = Sending(GROUP, GROUP, ("b", "a")).onto()
        self.assertIsInstance(told, Onto)
        self.assertTrue(told.holds is True and told.sign is None and bool(told))
        told = Sending(GROUP, GROUP, ("aa", "bb")).onto()
        self.assertTrue(told.holds is False and told.sign == "a" and not told)
        self.assertTrue(Sending(FREE, GROUP, ("aaa", "bb")).onto().holds)
        self.assertEqual(Sending(FREE, GROUP, ("aaa", "a")).onto().sign, "b")
        self.assertEqual(Sending(FREE, FREE, ("a", "ba")).onto().sign, "b")
        self.assertEqual(Sending(FREE, FREE, ("", "")).onto().sign, "a")
        # A sign that means the empty text is the image of the empty text.
        self.assertTrue(Sending(ONE, Book("ab", (("a", ""), ("b", ""))), ("",)).onto().holds)
        self.assertEqual(Sending(ONE, Book("ab", (("a", ""),)), ("",)).onto().sign, "b")

    def test_against_all_images(self):
        chance = brute.made(3)
        found = {True: 0, False: 0}
        for _ in range(300):
            told = some_sending(chance)
            reached = all_images(told, 7)
            verdict = told.onto()
            found[verdict.holds] += 1
            lacking = [sign for sign in told.other.signs if over(told.other, sign) not in reached]
            if verdict:
                self.assertIsNone(verdict.sign)
                self.assertEqual(lacking, [])
            else:
                self.assertEqual(lacking[0], verdict.sign)
        self.assertGreater(min(found.values()), 20)

    def test_long_images(self):
        self.assertTrue(Sending(FREE, GROUP, ("a" * 200, "b" * 199)).onto().holds)
        self.assertEqual(Sending(FREE, GROUP, ("a" * 200, "b" * 198)).onto().sign, "a")
        self.assertTrue(Sending(FREE_GROUP, FREE_GROUP, ("a", "b", "c" + "a" * 199, "b" * 199 + "d")).onto().holds)
        chance = brute.made(4)
        eight = Book("abcdefgh", ())
        free = Book("abcdefgh", tuple((x + y, "") for x, y in ("ab", "ba", "cd", "dc", "ef", "fe", "gh", "hg")))
        images = tuple("".join(chance.choice("abcdefgh") for _ in range(200)) for _ in range(8))
        self.assertEqual(Sending(eight, eight, images).onto().sign, "a")
        self.assertEqual(Sending(eight, free, images).onto().sign, "a")


class SentTest(unittest.TestCase):
    def test_by_hand(self):
        told = Sending(FREE, GROUP, ("aa", "b"))
        self.assertEqual(told.sent(lot=bag(FREE, ["", "ab", "abb"])), bag(GROUP, ["", "a"]))
        self.assertEqual(told.sent(whole(FREE)), whole(GROUP))
        self.assertEqual(told.sent(Lot(FREE, NOTHING)), Lot(GROUP, NOTHING))
        self.assertEqual(told.sent(Lot(FREE, loop("a"))), single(GROUP, "aa").again())
        self.assertEqual(Sending(FREE, GROUP, ("", "")).sent(whole(FREE)), single(GROUP, ""))
        # What is sent are the ends, not the texts that mean them.
        self.assertEqual(Sending(GROUP, FREE, ("a", "b")).sent(single(GROUP, "ab")), single(FREE, ""))

    def test_against_short_ends(self):
        chance = brute.made(5)
        for _ in range(150):
            told = some_sending(chance)
            lot = some_lot(chance, told.one)
            image = told.sent(lot)
            self.assertEqual((image.book, Lot(told.other, NOTHING).book), (told.other, told.other))
            for end in lot.listed(30):
                self.assertIn(told(end), image)
            if image.automaton[0] <= 40:
                self.assertEqual(Lot(told.other, image.automaton), image)

    def test_finite_lots_are_told_in_full(self):
        chance = brute.made(6)
        for _ in range(100):
            told = some_sending(chance)
            ends = [over(told.one, some_text(chance, told.one, 6)) for _ in range(chance.randint(0, 5))]
            self.assertEqual(told.sent(bag(told.one, ends)), bag(told.other, [told(end) for end in ends]))

    def test_endless_lots_are_told_in_full(self):
        chance = brute.made(7)
        for _ in range(60):
            told = some_sending(chance, 2)
            if told.one.rules:
                continue
            reached = all_images(told, 9)
            image = told.sent(whole(told.one))
            for end in ends_of(told.other, 4):
                if end in image:
                    self.assertIn(end, reached)
            for end in reached:
                self.assertIn(end, image)

    def test_other_books(self):
        told = Sending(FREE, GROUP, ("a", "b"))
        for lot in (whole(GROUP), whole(BRACKETS), whole(Book("abc", ()))):
            with self.assertRaises(Unlike) as caught:
                told.sent(lot)
            self.assertEqual(caught.exception.word, "book")
        self.assertEqual(told.sent(whole(Book("ab", []))), whole(GROUP))

    def test_too_many_states(self):
        told = Sending(FREE, FREE, ("a" * 200, "b"))
        self.assertEqual(told.sent(single(FREE, "ab" + "b" * 198)).automaton[0], 400)
        with self.assertRaises(TooMany) as caught:
            told.sent(single(FREE, "aa"))
        self.assertEqual(caught.exception.word, "state")
        with mock.patch.object(least, "MOST_KEPT_STATES", 3):
            self.assertEqual(Sending(FREE, FREE, ("ab", "b")).sent(single(FREE, "a")).automaton[0], 3)
            with self.assertRaises(TooMany):
                Sending(FREE, FREE, ("abb", "b")).sent(single(FREE, "a"))


class TogetherTest(unittest.TestCase):
    def test_by_hand(self):
        one, other = Sending(FREE, GROUP, ("ab", "bb")), Sending(GROUP, BRACKETS, ("b", "aab"))
        made = one * other
        self.assertIsInstance(made, Sending)
        self.assertEqual((made.one, made.other), (FREE, BRACKETS))
        # The images as they stand there: the image of a is not the empty text, though it means that.
        self.assertEqual(made.images, ("ba", "aa"))
        self.assertEqual(made("ab"), "baaa")
        self.assertEqual(one.images, ("ab", "bb"))
        self.assertEqual(made, Sending(FREE, BRACKETS, ("ba", "aa")))
        for wrong in (one, Sending(BRACKETS, GROUP, ("a", "b"))):
            with self.assertRaises(Unlike) as caught:
                one * wrong
            self.assertEqual(caught.exception.word, "book")

    def test_some(self):
        chance = brute.made(8)
        for _ in range(200):
            one = some_sending(chance)
            last = chance.choice(BOOKS)
            two = Sending(one.other, last, tuple(some_text(chance, last, 3) for _ in one.other.signs))
            made = one * two
            self.assertEqual(made.images, tuple(two(image) for image in one.images))
            for image in made.images:
                self.assertEqual(brute.steps(last.rules, image), [])
            if two.keeps():
                text = some_text(chance, one.one, 6)
                self.assertEqual(made(text), two(one(text)))

    def test_long_images(self):
        one, other = Sending(ONE, FREE, ("ab" * 100,)), Sending(FREE, FREE, ("b" * 200, "a" * 150))
        made = one * other
        self.assertEqual(made.images, (("b" * 200 + "a" * 150) * 100,))
        self.assertEqual(made("aa"), made.images[0] * 2)
        self.assertEqual((one * other).keeps().holds, True)
        self.assertEqual(made, one * other)
        more = made * Sending(FREE, GROUP, ("a", "b"))
        self.assertEqual(more.images, ("b" * 5000,))
        self.assertEqual(more.sent(single(ONE, "")).listed(1), ("",))
        again = more * Sending(GROUP, FREE_GROUP, ("ac" * 100, "db" * 100))
        self.assertEqual(again.images, ("db" * 500000,))
        self.assertEqual(again("a"), again.images[0])
        longer = Sending(ONE, FREE, ("a" * 200,)) * Sending(FREE, FREE, ("ab", "b"))
        self.assertEqual(longer.images, ("ab" * 200,))
        self.assertEqual(longer.onto().sign, "a")
        with self.assertRaises(TooMany):
            longer.sent(single(ONE, "a"))


class UndoneByTest(unittest.TestCase):
    def test_by_hand(self):
        turn = Sending(GROUP, GROUP, ("b", "a"))
        self.assertIs(turn.undone_by(other_sending=turn), True)
        self.assertIs(turn.undone_by(Sending(GROUP, GROUP, ("a", "b"))), False)
        there, back = Sending(ONE, Book("x", ()), ("x",)), Sending(Book("x", ()), ONE, ("a",))
        self.assertIs(there.undone_by(back), True)
        self.assertIs(back.undone_by(there), True)
        # Only the one of both ways leads back.
        there, back = Sending(ONE, FREE, ("a",)), Sending(FREE, ONE, ("a", ""))
        self.assertIs(there.undone_by(back), False)
        self.assertIs(back.undone_by(there), False)
        for wrong in (there, Sending(FREE, Book("a", (("aa", ""),)), ("a", "a")), Sending(GROUP, ONE, ("a", ""))):
            with self.assertRaises(Unlike) as caught:
                there.undone_by(wrong)
            self.assertEqual(caught.exception.word, "book")

    def test_the_image_of_a_sign_is_an_end(self):
        # The image of a stands there as xy, but it is x; what leads back does not keep the rule.
        there = Sending(FREE, Book("xy", (("xy", "x"),)), ("xy", "y"))
        back = Sending(there.other, FREE, ("a", "b"))
        self.assertEqual((there("a"), back("xy"), (there * back).images), ("x", "ab", ("ab", "b")))
        self.assertIs(there.undone_by(back), True)
        self.assertIs(back.undone_by(there), True)
        # A sign that is no end has to come back as its end.
        there = Sending(Book("abc", (("c", ""),)), FREE, ("a", "b", ""))
        back = Sending(FREE, there.one, ("a", "b"))
        self.assertIs(there.undone_by(back), True)
        self.assertIs(back.undone_by(there), True)
        there = Sending(Book("abc", (("c", ""),)), FREE, ("a", "b", "b"))
        self.assertIs(there.undone_by(back), False)
        self.assertIs(back.undone_by(there), False)

    def test_translators(self):
        for book, _ in groupkit.books(40, extra=2):
            told = standard(book)
            there, back = Sending(book, told.book, told.there), Sending(told.book, book, told.back)
            self.assertTrue(there.keeps() and back.keeps() and there.onto() and back.onto())
            self.assertTrue(there.undone_by(back) and back.undone_by(there))

    def test_some(self):
        chance = brute.made(9)
        found = {True: 0, False: 0}
        for book in BOOKS + some_books(9, 60, 3):
            for _ in range(6):
                one = Sending(book, book, tuple(chance.sample(book.signs, len(book.signs))))
                two = Sending(book, book, tuple(chance.sample(book.signs, len(book.signs))))
                told = one.undone_by(two)
                wanted = all(two(one(x)) == over(book, x) == one(two(x)) for x in book.signs)
                self.assertIs(told, wanted)
                found[told] += 1
        self.assertGreater(min(found.values()), 50)


if __name__ == "__main__":
    unittest.main()
