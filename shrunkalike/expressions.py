"""Expressions of lots: trees of tuples, and the texts by which they are written."""

from shrunkalike.checks import checked_signs
from shrunkalike.checks import is_row
from shrunkalike.checks import is_text
from shrunkalike.errors import BadExpression
from shrunkalike.errors import BadText
from shrunkalike.errors import BadTree
from shrunkalike.errors import TooMany

LONGEST_WRITTEN = 400
DEEPEST = 20
PLAIN = ("1", "0", ".")
BINDING = (("|",), ("&", "-"), (">", ">>", "<", "<<"), ("row",), ("*",))
PAIRS = ("|", "&", "-", ">", ">>", "<", "<<", "row")


class Scanning:
    """A text that is gone through, sign by sign, as long as an expression can begin with it."""

    def __init__(self, signs):
        self._signs = signs
        self._arrow = ""
        self._is_wanting = True
        self.opened = 0
        self.most_opened = 0

    def can_end(self):
        """Whether what has been gone through is an expression."""
        return not self._is_wanting and not self.opened

    def _begin(self, mark):
        """The mark begins an expression; whether it can."""
        if mark == "(":
            self.opened += 1
            self.most_opened = max(self.most_opened, self.opened)
            self._is_wanting = True
        else:
            self._is_wanting = False
        return mark == "(" or mark in PLAIN or mark in self._signs

    def take(self, mark):
        """The mark is gone through; whether an expression can begin with all so far."""
        arrow = self._arrow
        self._arrow = ""
        if self._is_wanting:
            return arrow == mark or self._begin(mark)
        if mark == ")":
            self.opened -= 1
            return self.opened >= 0
        if mark in PAIRS:
            self._is_wanting = True
            self._arrow = mark if mark in (">", "<") else ""
            return True
        return mark == "*" or self._begin(mark)


class Growing:
    """An expression that grows while its tokens are read, with forms that wait for their last part.

    Each tree stands together with its depth.
    """

    def __init__(self):
        self._trees = []
        self._waiting = []
        self._is_behind = False

    def _put(self, tree, depth):
        """A tree has been read."""
        if depth > DEEPEST:
            raise TooMany("depth")
        self._trees.append((tree, depth))

    def _join(self):
        """The form that waits last gets its two parts."""
        other, other_depth = self._trees.pop()
        one, one_depth = self._trees.pop()
        self._put((self._waiting.pop(), one, other), max(one_depth, other_depth) + 1)

    def _wait(self, form):
        """The form waits for its last part, behind all forms that bind as tightly."""
        while self._waiting and level_of(self._waiting[-1]) >= level_of(form):
            self._join()
        self._waiting.append(form)
        self._is_behind = False

    def take(self, token):
        """The next token is read."""
        if token == "*":
            tree, depth = self._trees.pop()
            self._put(("*", tree), depth + 1)
        elif token == ")":
            while self._waiting[-1] != "(":
                self._join()
            self._waiting.pop()
        elif token in PAIRS:
            self._wait(token)
        else:
            if self._is_behind:
                self._wait("row")
            self._is_behind = token != "("
            if token == "(":
                self._waiting.append("(")
            else:
                self._put((token,) if token in PLAIN else ("sign", token), 1)

    def grown(self):
        """The whole tree, when all tokens have been read."""
        while self._waiting:
            self._join()
        return self._trees[0][0]


def level_of(form):
    """How tightly the form binds; an open parenthesis less than all others."""
    for level, forms in enumerate(BINDING):
        if form in forms:
            return level
    return -1 if form == "(" else len(BINDING)


def check_written(signs, text):
    """The text is an expression with not too many parentheses open."""
    scanning = Scanning(signs)
    for place, mark in enumerate(text):
        if not scanning.take(mark):
            raise BadExpression(place)
    if not scanning.can_end():
        raise BadExpression(len(text))
    if scanning.most_opened > DEEPEST:
        raise TooMany("depth")


def tokens_of(text):
    """The tokens of the text of an expression."""
    found = []
    for mark in text:
        if mark in (">", "<") and found and found[-1] == mark:
            found[-1] = mark + mark
        else:
            found.append(mark)
    return found


def parse(signs, text):
    """The expression that the text reads as."""
    checked_signs(signs)
    if not isinstance(text, str) or len(text) > LONGEST_WRITTEN:
        raise BadText(text)
    check_written(signs, text)
    growing = Growing()
    for token in tokens_of(text):
        growing.take(token)
    return growing.grown()


def parts_of_form(form):
    """How many parts an expression of the form has; -1 if there is no such form."""
    if form in PLAIN or form == "sign":
        return 0
    if form == "*":
        return 1
    return 2 if form in PAIRS else -1


def form_of(signs, thing):
    """The form of the tree, whose parts are not looked at."""
    if not is_row(thing) or not thing or not isinstance(thing[0], str):
        raise BadTree()
    form = thing[0]
    many = 1 if form == "sign" else parts_of_form(form)
    if many < 0 or len(thing) != many + 1:
        raise BadTree()
    if form == "sign" and (not is_text(signs, thing[1], 1) or not thing[1]):
        raise BadTree()
    return form


def enclosed(text, level, least):
    """The text of an expression, in parentheses if it binds less tightly than the least level."""
    return text if level >= least else "(" + text + ")"


def written(signs, tree, depth):
    """The text of the tree, and how tightly it binds; it stands at this depth of a whole."""
    if depth > DEEPEST:
        raise BadTree()
    form = form_of(signs, tree)
    level = level_of(form)
    if parts_of_form(form) == 0:
        return tree[-1], level
    text, inner = written(signs, tree[1], depth + 1)
    text = enclosed(text, inner, level)
    if form == "*":
        return text + "*", level
    other, inner = written(signs, tree[2], depth + 1)
    return text + ("" if form == "row" else form) + enclosed(other, inner, level + 1), level


def write(signs, tree):
    """The text of the expression, with as few parentheses as can be."""
    text, _ = written(checked_signs(signs), tree, 1)
    return text
