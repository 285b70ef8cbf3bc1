"""The errors that the program raises."""


class GameError(ValueError):
    """Any error of the program."""


class Unfit(GameError):
    """What was handed in does not fit what is asked."""


class BadText(GameError):
    """A value is the text of none."""


class Taken(GameError):
    """What is to be put stands there already."""

    def __init__(self, given):
        super().__init__("this stands there already")
        self.given = given


class TooMany(GameError):
    """More than the limit."""

    def __init__(self, limit):
        super().__init__("there are more than the limit")
        self.limit = limit


class TooManyEdits(GameError):
    """A desk has as many edits as it may have."""


class NothingToUndo(GameError):
    """No edit stands that could be taken back."""


class NothingToRedo(GameError):
    """No edit was taken back that could be done again."""


class NoVersion(GameError):
    """A desk has no such version."""

    def __init__(self, given):
        super().__init__("there is no such version")
        self.given = given


class BadLog(GameError):
    """A log has an item that is no edit, or is no log at all."""

    def __init__(self, place):
        super().__init__("the log has a wrong item")
        self.place = place
