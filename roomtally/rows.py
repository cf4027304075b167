"""Names, rooms and rows, and the share of a row."""

from roomtally.errors import BadRoom

MOST_LETTERS = 8
MOST_QUESTIONS = 6
HIGHEST_ANSWER = 9


def is_name(text):
    """True where the text is 1 to 8 small letters."""
    if not 1 <= len(text) <= MOST_LETTERS:
        return False
    return all(["a" <= sign <= "z" for sign in text])


def rises(things):
    """True where each thing of a list or tuple is below the next one."""
    return all([low < high for low, high in zip(things, things[1:])])


def is_room(names):
    """True where the tuple is 0 to 6 names that rise strictly."""
    if len(names) > MOST_QUESTIONS:
        return False
    return all([is_name(name) for name in names]) and rises(names)


def is_row(room, row):
    """True where the tuple has one answer, 0 to 9, for each question of the room."""
    if len(row) != len(room):
        return False
    return all([0 <= answer <= HIGHEST_ANSWER for answer in row])


def within(part, room):
    """True where each question of the part is the room's too."""
    return all([name in room for name in part])


def united(one, other):
    """The room of all questions of two rooms."""
    return tuple(sorted(set(one + other)))


def common(one, other):
    """The room of the questions of both rooms."""
    return tuple([name for name in one if name in other])


def places(room, part):
    """The places that the part's questions have in the room."""
    if not within(part, room):
        raise BadRoom("the part is not within the room")
    return [room.index(name) for name in part]


def picked(row, spots):
    """The row of the answers at these places."""
    return tuple([row[spot] for spot in spots])


def share(room, row, part):
    """The share of a row of the room for the questions of the part."""
    return picked(row, places(room, part))
