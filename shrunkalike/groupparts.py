"""The parts of a group book, and the standard book of what it comes to."""

from shrunkalike.arrows import checked_arrows
from shrunkalike.books import Book
from shrunkalike.books import over

LETTERS = "abcdefgh"


class Parts:
    """The rank of a group book, and the tables of its parts in order."""

    def __init__(self, rank, tables):
        self.rank = rank
        self.tables = tables


class Standard:
    """The standard book of a group book, and the translators there and back."""

    def __init__(self, book, there, back):
        self.book = book
        self.there = there
        self.back = back


def parts_of(arrows):
    """The rank and the tables of the parts."""
    heads = [place for place, root in enumerate(arrows.roots) if place == root]
    return Parts(len(arrows.roots) - len(heads), tuple([arrows.loops(place) for place in heads]))


def parts(book):
    """The parts of the book."""
    return parts_of(checked_arrows(book))


def bridges(arrows):
    """For each place but the least ones of the parts a sign that leads there from the least one; in order."""
    found = {}
    for head in range(len(arrows.roots)):
        for place, root in enumerate(arrows.roots):
            if root == head and place != root:
                found[place] = arrows.first_between(root, place)
    return found


def table_rules(arrows, table, names):
    """The rules that tell what each two loops of a table come to, by the names of the loops."""
    found = []
    for one in table:
        for other in table:
            right = arrows.rights[one + other]
            found.append((names[one] + names[other], names[right] if right else ""))
    return found


def named_through(arrows, sign, names, over_bridges):
    """The sign as a way over the least place of its part: back to it, a loop there, and on from it."""
    begin, lead = arrows.begins[sign], arrows.leads[sign]
    ahead = over_bridges.get(begin, "")
    behind = over_bridges.get(lead, "")
    loop = over(arrows.book, ahead + sign + arrows.undone_text(behind))
    told = [names[arrows.undoing[ahead]] if ahead else "", names[loop] if loop else "", names[behind] if behind else ""]
    return "".join(told)


def standard_of(arrows):
    """The standard book and the translators."""
    tables = parts_of(arrows).tables
    over_bridges = bridges(arrows)
    back = list("".join(tables))
    for bridge in over_bridges.values():
        back.extend([bridge, arrows.undoing[bridge]])
    names = {sign: LETTERS[number] for number, sign in enumerate(back)}
    rules = []
    for table in tables:
        rules.extend(table_rules(arrows, table, names))
    for bridge in over_bridges.values():
        one, other = names[bridge], names[arrows.undoing[bridge]]
        rules.extend([(one + other, ""), (other + one, "")])
    there = [named_through(arrows, sign, names, over_bridges) for sign in arrows.book.signs]
    return Standard(Book(LETTERS[:len(back)], sorted(rules)), tuple(there), tuple(back))


def standard(book):
    """The standard book of the book, and the translators."""
    return standard_of(checked_arrows(book))
