"""The errors of the package: a class for each kind of failure, under three base classes.

The value with which an error is made is kept as it is and never put into words here: it may be anything.
"""


class BadValue(ValueError):
    """A value that is not what a call takes."""


class BadName(LookupError):
    """A name that does not stand for what a call needs."""


class NoAnswer(ArithmeticError):
    """A call that is right, but for which there is nothing to return or to do."""


class InvalidText(BadValue):
    """No text of a system, or no line for a console."""

    def __init__(self, given):
        self.given = given


class InvalidName(BadValue):
    """No name of what is asked for."""

    def __init__(self, given):
        self.given = given


class InvalidAnswer(BadValue):
    """No answer for the unknowns of a system."""

    def __init__(self, given):
        self.given = given


class InvalidCosts(BadValue):
    """No costs for the unknowns of a system."""

    def __init__(self, given):
        self.given = given


class InvalidSteps(BadValue):
    """No number of steps by which a system can be widened."""

    def __init__(self, given):
        self.given = given


class InvalidIndex(BadValue):
    """No index of the things that are meant."""

    def __init__(self, given):
        self.given = given


class InvalidRow(BadValue):
    """No row that gives a system."""

    def __init__(self, given):
        self.given = given


class InvalidStretch(BadValue):
    """No stretch within the one that is there."""

    def __init__(self, given):
        self.given = given


class InvalidChange(BadValue):
    """No change of a system, or one that does not give a system."""

    def __init__(self, given):
        self.given = given


class InvalidDemand(BadValue):
    """No demand on a system or on a shelf."""

    def __init__(self, given):
        self.given = given


class NotASystem(BadValue):
    """No system."""

    def __init__(self, given):
        self.given = given


class OtherUnknowns(BadValue):
    """A second system whose unknowns are not those of the first one, in the same order."""

    def __init__(self, given):
        self.given = given


class InvalidUnknowns(BadValue):
    """No unknowns of a system; the index of the first wrong one, or None."""

    def __init__(self, index):
        self.index = index


class InvalidRows(BadValue):
    """No rows for the unknowns of a system; the index of the first wrong one, or None."""

    def __init__(self, index):
        self.index = index


class InvalidSeen(BadValue):
    """No answers that can have been seen; the index of the first wrong one, or None."""

    def __init__(self, index):
        self.index = index


class InvalidChanges(BadValue):
    """No changes of a system; the index of the first wrong one, or None."""

    def __init__(self, index):
        self.index = index


class InvalidDemands(BadValue):
    """No demands on a system; the index of the first wrong one, or None."""

    def __init__(self, index):
        self.index = index


class UnknownName(BadName):
    """A name under which a shelf has nothing."""

    def __init__(self, given):
        self.given = given


class InUse(BadName):
    """A name that a demand on a shelf needs; the index of the first such demand."""

    def __init__(self, index):
        self.index = index


class NothingToUndo(NoAnswer):
    """There is nothing to take back."""


class NoSure(NoAnswer):
    """A system has no sure answer."""


class NoPossible(NoAnswer):
    """A system has no possible answer."""


class Broken(NoAnswer):
    """A demand on a shelf would not hold; the index of the first such demand."""

    def __init__(self, index):
        self.index = index
