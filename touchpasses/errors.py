"""The errors of the package: three base classes, and under each one the errors that belong to it.

Each class stands directly under its base class, so that it belongs to no other one of the package.
"""


class BadValue(ValueError):
    """A value that is not of the described kind."""


class InvalidText(BadValue):
    """What is no text of a track, or no line for a console."""

    def __init__(self, given):
        self.given = given


class InvalidLength(BadValue):
    """What is no length of a track."""

    def __init__(self, given):
        self.given = given


class InvalidPass(BadValue):
    """What is no pass of the track, or has the name of one that is there."""

    def __init__(self, given):
        self.given = given


class InvalidPlace(BadValue):
    """What is no place in the row of passes."""

    def __init__(self, given):
        self.given = given


class InvalidTick(BadValue):
    """What is no tick of the track."""

    def __init__(self, given):
        self.given = given


class InvalidName(BadValue):
    """What is no name."""

    def __init__(self, given):
        self.given = given


class InvalidChange(BadValue):
    """What is no change of the track, or does not give one."""

    def __init__(self, given):
        self.given = given


class InvalidLimit(BadValue):
    """What is no limit for sudden ticks."""

    def __init__(self, given):
        self.given = given


class InvalidWish(BadValue):
    """What is no wish."""

    def __init__(self, given):
        self.given = given


class InvalidIndex(BadValue):
    """What is no index of a promise or a wish."""

    def __init__(self, given):
        self.given = given


class NotATrack(BadValue):
    """What stands in the place of a track."""

    def __init__(self, given):
        self.given = given


class OtherLength(BadValue):
    """A track that is not as long as the one ahead of it."""

    def __init__(self, given):
        self.given = given


class InvalidPasses(BadValue):
    """No row of passes; index is that of the first wrong one."""

    def __init__(self, index):
        self.index = index


class InvalidKnown(BadValue):
    """No row of known numbers; index is that of the first wrong one."""

    def __init__(self, index):
        self.index = index


class InvalidBounds(BadValue):
    """No bounds of the track; index is that of the first wrong one."""

    def __init__(self, index):
        self.index = index


class InvalidChanges(BadValue):
    """No row of changes; index is that of the first wrong one."""

    def __init__(self, index):
        self.index = index


class InvalidWishes(BadValue):
    """No row of wishes; index is that of the first wrong one."""

    def __init__(self, index):
        self.index = index


class BadName(LookupError):
    """A name that does not lead to what is asked for."""


class UnknownName(BadName):
    """A name under which there is nothing."""

    def __init__(self, given):
        self.given = given


class InUse(BadName):
    """A name that a wish needs; index is that of the first such wish."""

    def __init__(self, index):
        self.index = index


class NotKnown(BadName):
    """A source and a tick whose number is not known."""

    def __init__(self, given):
        self.given = given


class NoAnswer(ArithmeticError):
    """A call that is right and still cannot be done."""


class NothingToUndo(NoAnswer):
    """No change is left that could be taken back."""


class TooMany(NoAnswer):
    """More than there can be; most is how many there can be."""

    def __init__(self, most):
        self.most = most


class Broken(NoAnswer):
    """A promise or a wish would not hold; index is that of the first such one."""

    def __init__(self, index):
        self.index = index
