"""The errors of the package."""


class PaceError(Exception):
    """The base class of all errors of the package."""


class TooMany(PaceError):
    """A tuple would have more items than are wanted."""

    def __init__(self, most):
        self.most = most


class TooManyRooms(PaceError):
    """A web would have more than 8 rooms."""


class BadText(PaceError):
    """A text is not of the kind that is asked for: this line cannot stand."""

    def __init__(self, line):
        self.line = line


class BadTable(PaceError):
    """This is no table of arrows."""

    def __init__(self, thing):
        self.thing = thing


class BadWeb(PaceError):
    """This is no web."""

    def __init__(self, thing):
        self.thing = thing


class BadOrder(PaceError):
    """This is no order of the rooms."""

    def __init__(self, thing):
        self.thing = thing


class BadLength(PaceError):
    """This is no length."""

    def __init__(self, thing):
        self.thing = thing


class BadRoom(PaceError):
    """This is no room."""

    def __init__(self, thing):
        self.thing = thing


class BadWalk(PaceError):
    """This is no walk."""

    def __init__(self, thing):
        self.thing = thing


class BadRound(PaceError):
    """This is no round of the kind that is asked for."""

    def __init__(self, thing):
        self.thing = thing


class BadPrices(PaceError):
    """This is no price row."""

    def __init__(self, thing):
        self.thing = thing


class BadTimes(PaceError):
    """This is no time row."""

    def __init__(self, thing):
        self.thing = thing


class BadHeights(PaceError):
    """These are no heights."""

    def __init__(self, thing):
        self.thing = thing


class BadNumbers(PaceError):
    """These are no numbers of a price row."""

    def __init__(self, thing):
        self.thing = thing


class BadNumber(PaceError):
    """This is no number of the kind that is asked for."""

    def __init__(self, thing):
        self.thing = thing


class BadCounts(PaceError):
    """These are no counts."""

    def __init__(self, thing):
        self.thing = thing


class BadPoint(PaceError):
    """This is no pair of numbers."""

    def __init__(self, thing):
        self.thing = thing


class BadPeriod(PaceError):
    """The other web has this period, and not 1."""

    def __init__(self, period):
        self.period = period


class NotMore(PaceError):
    """The growth of the other web is not greater."""


class BadDeed(PaceError):
    """This is no deed."""

    def __init__(self, thing):
        self.thing = thing


class NoDeed(PaceError):
    """This deed cannot be done."""

    def __init__(self, deed):
        self.deed = deed


class NoPrices(PaceError):
    """This deed does not lead price rows along."""

    def __init__(self, deed):
        self.deed = deed


class BadChain(PaceError):
    """The chain cannot be done: its deed with this number fails."""

    def __init__(self, number):
        self.number = number


class BadRow(PaceError):
    """This is no row with an integer for each room."""

    def __init__(self, thing):
        self.thing = thing


class BadRooms(PaceError):
    """This is no number of rooms that is asked for."""

    def __init__(self, thing):
        self.thing = thing


class BadDivisors(PaceError):
    """These are no divisors."""

    def __init__(self, thing):
        self.thing = thing


class BadSign(PaceError):
    """This is no sign that fits."""

    def __init__(self, thing):
        self.thing = thing


class BadPaper(PaceError):
    """This is no right paper."""

    def __init__(self, thing):
        self.thing = thing


class BadName(PaceError):
    """This is no name."""

    def __init__(self, thing):
        self.thing = thing


class NoName(PaceError):
    """This name does not stand for what is asked for."""

    def __init__(self, name):
        self.name = name


class NameTaken(PaceError):
    """This name stands for something already."""

    def __init__(self, name):
        self.name = name


class InUse(PaceError):
    """Something else needs what this name stands for."""

    def __init__(self, name):
        self.name = name


class OtherWeb(PaceError):
    """The price rows are about webs of different names."""


class BadPromise(PaceError):
    """This is no promise that can be given."""

    def __init__(self, thing):
        self.thing = thing


class NoPromise(PaceError):
    """This promise is not given."""

    def __init__(self, thing):
        self.thing = thing


class BadChange(PaceError):
    """The deal cannot be done: its change with this number fails."""

    def __init__(self, number):
        self.number = number


class Unkept(PaceError):
    """This promise would not be kept, as the fault shows."""

    def __init__(self, promise, fault):
        self.promise = promise
        self.fault = fault


class NothingToUndo(PaceError):
    """No deal is left to be undone."""


class NothingToRedo(PaceError):
    """No undone deal is left to be done again."""


class InvalidCommand(PaceError):
    """This is no command."""
