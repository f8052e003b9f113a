"""Point [28]: parts, ranks, tables and standard books."""

import unittest

import brute
import groupkit
from groupkit import C, S3, V4
from lotkit import GROUP, rotations
from shrunkalike.books import Book
from shrunkalike.groupparts import parts, standard
from shrunkalike.groupoids import places, undo_signs


def translated(signs, texts, text):
    told = dict(zip(signs, texts))
    return "".join(told[sign] for sign in text)


def assert_translators(case, one, other, there, back):
    """What the document says of translators of two books."""
    for signs, over, texts in ((one.signs, other.signs, there), (other.signs, one.signs, back)):
        case.assertIs(type(texts), tuple)
        case.assertEqual(len(texts), len(signs))
        for text in texts:
            case.assertIs(type(text), str)
            case.assertLessEqual(len(text), 200)
            case.assertLessEqual(set(text), set(over))
    for left, right in one.rules:
        case.assertEqual(other(translated(one.signs, there, left)), other(translated(one.signs, there, right)))
    for left, right in other.rules:
        case.assertEqual(one(translated(other.signs, back, left)), one(translated(other.signs, back, right)))
    for sign in one.signs:
        case.assertEqual(one(translated(other.signs, back, there[one.signs.index(sign)])), one(sign))
    for sign in other.signs:
        case.assertEqual(other(translated(one.signs, there, back[other.signs.index(sign)])), other(sign))


class PartsTest(unittest.TestCase):
    def test_by_hand(self):
        told = parts(book=GROUP)
        self.assertEqual((told.rank, told.tables), (1, ("",)))
        self.assertEqual(parts(rotations(5)).tables, ("abcd",))
        self.assertEqual(parts(rotations(9)).rank, 0)
        book = Book("abcd", (("dd", ""), ("ab", ""), ("ba", ""), ("cc", "")))
        self.assertEqual((parts(book).rank, parts(book).tables), (1, ("", "c", "d")))
        book = Book("abcd", (("ad", ""), ("da", ""), ("bb", "c"), ("cc", "b"), ("bc", ""), ("cb", "")))
        self.assertEqual((parts(book).rank, parts(book).tables), (1, ("", "bc")))
        self.assertEqual(places(book), ((0, 2), (1, 1), (1, 1), (2, 0)))

    def test_against_arrows(self):
        for seed in range(5):
            for book, arrows in groupkit.books(seed, extra=3 * (seed % 2)):
                heads = []
                for sign in book.signs:
                    if arrows[sign][:2] not in heads:
                        heads.append(arrows[sign][:2])
                least = []
                for head in heads:
                    if head[0] not in [k for k, _ in least]:
                        least.append(head)
                told = parts(book)
                self.assertEqual(told.rank, len(heads) - len(least))
                tables = ["".join(sign for sign in book.signs if arrows[sign][:3] == (k, i, i)) for k, i in least]
                self.assertEqual(told.tables, tuple(tables))

    def test_loops_are_closed(self):
        for book, _ in groupkit.books(11, extra=2):
            for table in parts(book).tables:
                ends = [""] + list(table)
                for one in ends:
                    for other in ends:
                        self.assertIn(book(one + other), ends)


class StandardTest(unittest.TestCase):
    def test_by_hand(self):
        told = standard(book=GROUP)
        self.assertEqual(told.book, GROUP)
        assert_translators(self, GROUP, told.book, told.there, told.back)
        # Two loops of two at each of two places: one loop, and two signs for the other place.
        names = dict(zip([(0, 0, 1), (0, 1, 0), (0, 1, 1), (1, 0, 0), (1, 0, 1), (1, 1, 1)], "pqrstu"))
        rules = [(names[one] + names[two], names.get((one[0], two[1], (one[2] + two[2]) % 2), ""))
                 for one in names for two in names if one[1] == two[0]]
        book = Book("pqrstu", tuple(rules))
        told = standard(book)
        self.assertEqual(told.book, Book("abc", (("aa", ""), ("bc", ""), ("cb", ""))))
        assert_translators(self, book, told.book, told.there, told.back)
        # A table with rules of each kind, beside two free signs.
        book = Book("kmsxz", (("zx", ""), ("xz", ""), ("ks", "m"), ("sk", "m"), ("km", "s"), ("mk", "s"), ("ms", "k"),
                              ("sm", "k"), ("kk", ""), ("mm", ""), ("ss", "")))
        rules = (("aa", ""), ("ab", "c"), ("ac", "b"), ("ba", "c"), ("bb", ""), ("bc", "a"), ("ca", "b"), ("cb", "a"),
                 ("cc", ""), ("de", ""), ("ed", ""))
        self.assertEqual(standard(book).book, Book("abcde", rules))

    def rules_told(self, book, tables, rank):
        """The rules of the standard book by the words of the document."""
        names = dict(zip("".join(tables), "abcdefgh"))
        rules = [(names[x] + names[y], names.get(book(x + y), "")) for table in tables for x in table for y in table]
        for k in range(rank):
            x, y = "abcdefgh"[len(names) + 2 * k:len(names) + 2 * k + 2]
            rules.extend([(x + y, ""), (y + x, "")])
        return Book("abcdefgh"[:len(names) + 2 * rank], tuple(sorted(rules)))

    def test_all_shapes(self):
        for seed in range(6):
            for book, _ in groupkit.books(seed + 20, extra=4 * (seed % 2)):
                told, shape = standard(book), parts(book)
                self.assertEqual(told.book, self.rules_told(book, shape.tables, shape.rank))
                assert_translators(self, book, told.book, told.there, told.back)
                self.assertEqual(parts(told.book).rank, shape.rank)
                self.assertEqual([len(table) for table in parts(told.book).tables if table],
                                 [len(table) for table in shape.tables if table])
                again = standard(told.book)
                self.assertEqual(again.book, told.book)
                assert_translators(self, told.book, again.book, again.there, again.back)

    def test_the_largest_tables(self):
        chance = brute.made(1)
        for groups in ([(C[9], 1)], [(groupkit.C33, 1)], [(C[8], 1)], [(groupkit.Q8, 1)], [(C[2], 1)] * 8,
                       [(C[1], 2)] * 4, [(V4, 1), (S3, 1)], [(C[2], 2), (C[1], 2)]):
            for _ in range(3):
                book, _ = groupkit.group_book(chance, groups, 5)
                told = standard(book)
                assert_translators(self, book, told.book, told.there, told.back)
                self.assertIsNone(told.book.quarrel)
                self.assertLessEqual(len(told.book), 64)
                self.assertEqual(len(undo_signs(told.book)), len(told.book.signs))


if __name__ == "__main__":
    unittest.main()
