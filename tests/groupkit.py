"""Group books to try things on: tables of numbers, arrows between places, and books made of them."""

import itertools
import string

import brute
from shrunkalike.books import Book


def cyclic(size):
    return [[(i + j) % size for j in range(size)] for i in range(size)]


def product_of(one, other):
    """Both tables side by side."""
    pairs = list(itertools.product(range(len(one)), range(len(other))))
    return [[pairs.index((one[i][k], other[j][m])) for k, m in pairs] for i, j in pairs]


def of_maps(maps):
    """The table of maps, which are tuples and closed under doing one after the other."""
    known = sorted(maps, key=lambda told: (told != tuple(range(len(told))), told))
    return [[known.index(tuple(other[k] for k in one)) for other in known] for one in known]


def closed(maps):
    found = set(maps) | {tuple(range(len(maps[0])))}
    while True:
        more = {tuple(other[k] for k in one) for one in found for other in found} - found
        if not more:
            return of_maps(found)
        found |= more


C = {size: cyclic(size) for size in range(1, 10)}
V4 = product_of(C[2], C[2])
S3 = closed([(1, 0, 2), (0, 2, 1)])
D4 = closed([(1, 2, 3, 0), (3, 2, 1, 0)])
# The units 1, i, j, k with both signs, as maps of themselves by what stands ahead.
Q8 = closed([(1, 4, 3, 6, 5, 0, 7, 2), (2, 7, 4, 1, 6, 3, 0, 5)])
E8 = product_of(V4, C[2])
C42 = product_of(C[4], C[2])
C33 = product_of(C[3], C[3])
TABLES = [C[2], C[3], C[4], V4, C[5], C[6], S3, C[7], C[8], D4, Q8, E8, C42, C[9], C33]


def arrows_of(groups):
    """All arrows that do something; a group is a table and a number of places."""
    return [(k, i, j, g) for k, (table, many) in enumerate(groups) for i in range(many) for j in range(many)
            for g in range(len(table)) if i != j or g]


def after(groups, one, other):
    """The arrow that two arrows come to, or None if the second one cannot follow."""
    if one[0] != other[0] or one[2] != other[1]:
        return None
    return (one[0], one[1], other[2], groups[one[0]][0][one[3]][other[3]])


def longer_rules(chance, book, many):
    """Rules with longer left sides that say nothing new."""
    found = []
    for _ in range(many):
        left = "".join(chance.choice(book.signs) for _ in range(chance.choice([3, 3, 4])))
        right = book(left)
        if len(right) <= 1 and (left, right) not in found:
            found.append((left, right))
    return found


def group_book(chance, groups, extra=0):
    """A book of the groups with its signs and rules in any order, and a dict from its signs to the arrows."""
    arrows = arrows_of(groups)
    signs = "".join(sorted(chance.sample(string.ascii_lowercase, len(arrows))))
    names = dict(zip(chance.sample(arrows, len(arrows)), signs))
    rules = []
    for one in arrows:
        for other in arrows:
            made = after(groups, one, other)
            if made is not None:
                rules.append((names[one] + names[other], names.get(made, "")))
    chance.shuffle(rules)
    more = longer_rules(chance, Book(signs, tuple(rules)), extra)
    rules = rules + more[:64 - len(rules)]
    chance.shuffle(rules)
    return Book(signs, tuple(rules)), {sign: arrow for arrow, sign in names.items()}


SHAPES = [
    [(C[2], 1)], [(C[3], 1)], [(C[1], 2)], [(C[2], 1), (C[2], 1)], [(C[2], 1), (C[3], 1)], [(V4, 1)], [(C[4], 1)],
    [(C[1], 2), (C[1], 2)], [(C[1], 2), (C[2], 1)], [(S3, 1)], [(C[6], 1)], [(C[2], 2)], [(C[1], 3)],
    [(C[1], 3), (C[2], 1)], [(C[1], 3), (C[1], 2)], [(C[2], 2), (C[2], 1)], [(C[2], 2), (C[3], 1)],
    [(C[2], 2), (C[1], 2)], [(S3, 1), (C[3], 1)], [(S3, 1), (C[1], 2)], [(V4, 1), (C[4], 1)], [(C[5], 1), (V4, 1)],
    [(C[3], 1), (C[3], 1), (C[3], 1), (C[3], 1)], [(C[1], 2)] * 4, [(C[2], 1)] * 8, [(D4, 1)], [(Q8, 1)], [(C33, 1)],
    [(C[9], 1)], [(C[2], 1), (C[2], 1), (C[1], 2), (C[3], 1)],
]


def some_group(chance, most=8):
    """Groups whose arrows are not too many, as they come."""
    while True:
        groups = [chance.choice([(C[1], 2), (C[1], 3), (C[2], 2), (C[2], 1), (C[2], 1), (C[3], 1), (C[4], 1), (V4, 1),
                                 (C[5], 1), (C[6], 1), (S3, 1)]) for _ in range(chance.randint(1, 4))]
        if len(arrows_of(groups)) <= most:
            return groups


def some_group_book(chance, most=8, extra=3):
    return group_book(chance, some_group(chance, most), extra)[0]


def books(seed, extra=0):
    """A book for each shape, and the arrows of its signs."""
    chance = brute.made(seed)
    return [group_book(chance, groups, extra) for groups in SHAPES]
