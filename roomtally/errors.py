"""The refusals, each straight under RoomError."""


class RoomError(ValueError):
    """Any refusal."""


class BadName(RoomError):
    """The text is no name."""


class BadRoom(RoomError):
    """The names are no room, or no room that fits here."""


class BadRow(RoomError):
    """The answers are no row of the room."""


class BadTally(RoomError):
    """The rows are no tally of the room."""


class BadCount(RoomError):
    """The count is out of its bounds."""


class NoRoom(RoomError):
    """No room of that name is open."""


class Taken(RoomError):
    """A room of that name is open."""


class Full(RoomError):
    """As many rooms are open as may be."""


class TooFew(RoomError):
    """More is to be taken of a row than there is; `row` is that row."""

    def __init__(self, row):
        self.row = row


class Apart(RoomError):
    """Two tallies disagree; `row` is their bar."""

    def __init__(self, row):
        self.row = row


class Hangs(RoomError):
    """The rooms hang, so there is no knot."""


class NoBack(RoomError):
    """There is no deed to take back or to do again."""


class BadText(RoomError):
    """The text can't be read; `at` is the number of the first line at fault."""

    def __init__(self, at):
        self.at = at
