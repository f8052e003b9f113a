"""Books and lots to try things on."""

import brute
from shrunkalike.books import Book
from shrunkalike.lots import Lot, single

NOTHING = (1, (), ())
GROUP = Book("ab", (("ab", ""), ("ba", "")))
LOOSE = Book("ab", (("aa", "b"),))
BRACKETS = Book("ab", (("ab", ""),))
FREE = Book("ab", ())
TWO_GROUPS = Book("abc", (("aa", ""), ("bb", "c"), ("cc", "b"), ("bc", ""), ("cb", "")))


def some_settled(chance, signs, most):
    """A settled book, as it comes."""
    while True:
        book = Book(signs, brute.some_rules(chance, signs, most))
        if book.quarrel is None:
            return book


def some_books(seed, many, most=5):
    chance = brute.made(seed)
    return [some_settled(chance, chance.choice(["a", "ab", "abc"]), most) for _ in range(many)]


BOOKS = [Book(*told) for told in brute.SETTLED] + some_books(0, 24)


def rotations(size):
    """The table of the numbers below the size, which are added round; the signs are all but 0."""
    name = [""] + list("abcdefgh"[:size - 1])
    return Book("abcdefgh"[:size - 1], tuple((name[i] + name[j], name[(i + j) % size])
                                             for i in range(1, size) for j in range(1, size)))


def ends_of(book, longest):
    """All ends of at most so many signs, ascending."""
    level, found = [""], []
    for _ in range(longest + 1):
        found.extend(level)
        level = [text + sign for text in level for sign in book.signs if not brute.steps(book.rules, text + sign)]
    return found


def reads(automaton, text):
    """Whether the automaton, which has no two edges from one state with one sign, accepts the text."""
    moves = {(p, x): q for p, x, q in automaton[1]}
    state = 0
    for sign in text:
        state = moves.get((state, sign))
    return state in automaton[2]


def chain(text):
    return (len(text) + 1, tuple((k, x, k + 1) for k, x in enumerate(text)), (len(text),))


def loop(signs):
    return (1, tuple((0, x, 0) for x in signs), (0,))


def bag(book, texts):
    """The lot of the meanings of these texts."""
    lot = Lot(book, NOTHING)
    for text in texts:
        lot = lot | single(book, text)
    return lot


def some_text(chance, book, longest):
    return "".join(chance.choice(book.signs) for _ in range(chance.randint(0, longest)))


def some_bag(chance, book, most, longest):
    return bag(book, [some_text(chance, book, longest) for _ in range(chance.randint(0, most))])


def some_lot(chance, book, most_states=4):
    return Lot(book, brute.some_automaton(chance, book.signs, most_states, 6))
