"""The refusals, each with a class of its own."""


class SplitError(ValueError):
    """Any refusal."""


class NoPrime(SplitError):
    """The prime is none of 2, 3, 5, 7."""


class Nought(SplitError):
    """0 has no inverse."""


class NoTable(SplitError):
    """The rows make no table of this high and wide."""


class NoWidths(SplitError):
    """The widths are none that a row can have."""


class NoRow(SplitError):
    """What is told makes no row."""


class Unlike(SplitError):
    """Two rows are not of one kind."""


class TooMany(SplitError):
    """More numbers than there may be."""


class NoTurn(SplitError):
    """The room is neither an end nor a beginning."""


class NoLine(SplitError):
    """The desk knows no such line."""


class Nothing(SplitError):
    """The desk keeps no row."""


class NoArrow(SplitError):
    """The arrow number at is wrong."""

    def __init__(self, at):
        SplitError.__init__(self, f"arrow {at} is wrong")
        self.at = at


class NoText(SplitError):
    """The word number at is wrong."""

    def __init__(self, at):
        SplitError.__init__(self, f"word {at} is wrong")
        self.at = at


class NoRoom(SplitError):
    """There is no such room, or none that may stand there."""

    def __init__(self, room):
        SplitError.__init__(self, f"room {room} is wrong")
        self.room = room
