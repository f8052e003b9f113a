"""Whether two group books are the same group."""

from shrunkalike.arrows import checked_arrows
from shrunkalike.groupparts import LETTERS
from shrunkalike.groupparts import parts_of
from shrunkalike.groupparts import standard_of


class SameGroup:
    """Whether two group books are the same group: the translators, or the reason why not."""

    def __init__(self, holds, there, back, reason):
        self.holds = holds
        self.there = there
        self.back = back
        self.reason = reason

    def __bool__(self):
        return bool(self.holds)


class Side:
    """A group book that is held against another one."""

    def __init__(self, book):
        self.arrows = checked_arrows(book)
        told = parts_of(self.arrows)
        self.rank = told.rank
        self.tables = [table for table in told.tables if table]


def fits(one, other, given, loop, aim):
    """Whether products go on to be given to products if the loop is given to the aim, too."""
    tried = {mine: given[mine] for mine in given}
    tried[loop] = aim
    for mine, yours in tried.items():
        for left, right in ((mine + loop, yours + aim), (loop + mine, aim + yours)):
            made, led = one.arrows.rights[left], other.arrows.rights[right]
            if bool(made) != bool(led) or made in tried and tried[made] != led:
                return False
    return True


def given_loops(one, table, other, other_table):
    """The loops of the one table given to those of the other one, as a dict; None if they are not alike."""
    if len(table) != len(other_table):
        return None
    waiting = [{}]
    while waiting:
        given = waiting.pop()
        if len(given) == len(table):
            return given
        loop = table[len(given)]
        taken = list(given.values())
        for aim in other_table[::-1]:
            if aim not in taken and fits(one, other, given, loop, aim):
                grown = {mine: given[mine] for mine in given}
                grown[loop] = aim
                waiting.append(grown)
    return None


def alike_tables(one, table, other):
    """The numbers of the tables of the other side that are alike to the table of the one."""
    return [at for at, yours in enumerate(other.tables) if given_loops(one, table, other, yours) is not None]


def reason_against(one, other):
    """Why both sides are not the same group, or None."""
    if one.rank != other.rank:
        return ("rank", one.rank, other.rank)
    for number, side in enumerate((one, other)):
        for table in side.tables:
            mine, yours = len(alike_tables(side, table, one)), len(alike_tables(side, table, other))
            if mine != yours:
                return ("table", number, table, mine, yours)
    return None


def all_given(one, other):
    """All loops of the tables of the one side given to loops of the other one."""
    found = {}
    taken = {}
    for table in one.tables:
        at = [number for number in alike_tables(one, table, other) if number not in taken][0]
        taken[at] = True
        found.update(given_loops(one, table, other, other.tables[at]))
    return found


def carried_over(texts, names, back):
    """The texts with each sign named anew and then translated back."""
    return tuple(["".join([back[LETTERS.index(names[sign])] for sign in text]) for text in texts])


def same_group(one, other):
    """Whether both books are the same group."""
    mine, yours = Side(one), Side(other)
    reason = reason_against(mine, yours)
    if reason is not None:
        return SameGroup(False, None, None, reason)
    given = all_given(mine, yours)
    my_standard, your_standard = standard_of(mine.arrows), standard_of(yours.arrows)
    names = {letter: letter for letter in my_standard.book.signs}
    for loop, aim in given.items():
        names[LETTERS[my_standard.back.index(loop)]] = LETTERS[your_standard.back.index(aim)]
    turned = {aim: letter for letter, aim in names.items()}
    there = carried_over(my_standard.there, names, your_standard.back)
    return SameGroup(True, there, carried_over(your_standard.there, turned, my_standard.back), None)
