"""The errors that the program raises."""


class MendError(ValueError):
    """The base class of all errors that the program raises."""


class InvalidInput(MendError):
    """Something that was passed in breaks a rule."""


class InvalidText(InvalidInput):
    """A text does not have its form; `position` tells where."""

    def __init__(self, position):
        super().__init__(f"the text does not fit at position {position}")
        self.position = position


class InvalidProgram(InvalidInput):
    """A program breaks the rule that `reason` names."""

    def __init__(self, reason):
        super().__init__(f"the program breaks a rule: {reason}")
        self.reason = reason


class InvalidContract(InvalidInput):
    """A contract breaks the rule that `reason` names."""

    def __init__(self, reason):
        super().__init__(f"the contract breaks a rule: {reason}")
        self.reason = reason


class InvalidChange(InvalidInput):
    """A change or a draft contradicts itself or does not fit the program."""


class InvalidStream(InvalidInput):
    """A stream is too long or has something that is not an input letter."""


class InvalidPlaces(InvalidInput):
    """`place` does not exist or stood before."""

    def __init__(self, place):
        super().__init__(f"place {place} does not exist or stood before")
        self.place = place


class InvalidEdit(InvalidInput):
    """The edit of `place` is not one that the place has."""

    def __init__(self, place):
        super().__init__(f"the edit of place {place} does not fit")
        self.place = place


class InvalidLine(InvalidInput):
    """The line with this `number` does not fit."""

    def __init__(self, number):
        super().__init__(f"line {number} does not fit")
        self.number = number


class InvalidName(InvalidInput):
    """`name` is not a name."""

    def __init__(self, name):
        super().__init__(f"not a name: {name}")
        self.name = name


class Mismatch(InvalidInput):
    """Two things differ in their input letters or output letters."""


class BoundError(MendError):
    """Something goes beyond a bound."""


class TooLarge(BoundError):
    """`what` tells what is too large."""

    def __init__(self, what):
        super().__init__(f"too large: {what}")
        self.what = what


class TooLong(BoundError):
    """`what` tells what is too long."""

    def __init__(self, what):
        super().__init__(f"too long: {what}")
        self.what = what


class TooManyCases(BoundError):
    """More than `limit` cases ask."""

    def __init__(self, limit):
        super().__init__(f"more than {limit} cases ask")
        self.limit = limit


class DeskError(MendError):
    """A desk cannot do what it was asked."""


class NameTaken(DeskError):
    """The desk has something with this `name` already."""

    def __init__(self, name):
        super().__init__(f"the name is taken: {name}")
        self.name = name


class UnknownName(DeskError):
    """The desk has nothing with this `name`."""

    def __init__(self, name):
        super().__init__(f"the name is unknown: {name}")
        self.name = name


class NothingToUndo(DeskError):
    """No deed is in force."""


class NothingToRedo(DeskError):
    """No deed was taken back that could be put in force again."""
