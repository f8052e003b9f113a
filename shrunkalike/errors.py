"""All errors of the program."""


class ShrunkError(ValueError):
    """The base of all errors."""


class WrongThing(ShrunkError):
    """A thing is not what it should be; it is borne as it was passed."""

    def __init__(self, thing):
        self.thing = thing


class BadSigns(WrongThing):
    """The thing is no string of signs."""


class BadText(WrongThing):
    """The thing is no text over the signs."""


class BadNumber(WrongThing):
    """The thing is no integer within its bounds."""


class BadTitle(WrongThing):
    """The thing is no title of a claim."""


class WrongItem(ShrunkError):
    """One of several things is wrong, or the whole of them if the place is -1."""

    def __init__(self, place):
        self.place = place


class BadAutomaton(WrongItem):
    """The thing is no automaton over the signs."""


class BadRule(WrongItem):
    """A thing is no rule over the signs, or stands there before."""


class BadRun(WrongItem):
    """A thing is no step of the text to which the things ahead of it lead."""


class BadPrice(WrongItem):
    """A thing is no price of a rule."""


class BadMend(WrongItem):
    """A thing is no mend."""


class BadCondition(WrongItem):
    """A thing is no condition on a meaning."""


class BadTurn(WrongItem):
    """A thing is no turn of a saying."""


class BadImage(WrongItem):
    """A thing is no image of a sign."""


class BadExpression(WrongItem):
    """A text is no expression from the place on."""


class BadLine(WrongItem):
    """A thing is no line of a book."""


class NotSettled(ShrunkError):
    """The book is not settled; the text is the least one with two ends."""

    def __init__(self, text):
        self.text = text


class Unlike(ShrunkError):
    """Two things do not go together, since something of them is unlike."""

    def __init__(self, word):
        self.word = word


class TooMany(ShrunkError):
    """More things of a kind come up than are let."""

    def __init__(self, word):
        self.word = word


class NoDeed(ShrunkError):
    """There is no deed to be undone or redone."""

    def __init__(self, word):
        self.word = word


class NoStep(ShrunkError):
    """The pair is no step of the text."""

    def __init__(self, place, number):
        self.place = place
        self.number = number


class NoEdge(ShrunkError):
    """The triple is no closed edge."""

    def __init__(self, edge):
        self.edge = edge


class NotShort(ShrunkError):
    """A left side of the least book has not exactly two signs."""

    def __init__(self, left):
        self.left = left


class NoUndo(ShrunkError):
    """A sign has no undoing sign."""

    def __init__(self, sign):
        self.sign = sign


class HasOrder(ShrunkError):
    """A text has an order, which is the number."""

    def __init__(self, number):
        self.number = number


class NotInLot(ShrunkError):
    """A meaning, the text, is not in the lot of the turn."""

    def __init__(self, text):
        self.text = text


class Unknown(ShrunkError):
    """No claim has this title."""

    def __init__(self, title):
        self.title = title


class Twice(ShrunkError):
    """A claim has this title already."""

    def __init__(self, title):
        self.title = title


class NoTurn(ShrunkError):
    """All turns have been made."""


class BadTree(ShrunkError):
    """The thing is no expression."""
