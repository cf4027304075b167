"""The house: rooms with names, the deeds that are done in it, and what can be asked of it."""

from roomtally.agree import bars
from roomtally.errors import BadCount, BadName, BadRoom, BadRow, BadTally, Full, Hangs, NoBack, NoRoom, Taken
from roomtally.hanging import paper
from roomtally.rows import is_name, is_room, is_row, share, within
from roomtally.spoil import borne
from roomtally.tally import is_tally, less, plus
from roomtally.whole import whole

MOST_ROOMS = 8
MOST_COUNT = 10 ** 12

# What is open is a dict of (room, tally) by names, in the order of starting. No such dict and no tally in it is
# ever changed: each deed makes new ones, so that those ahead of it can be kept and come back as they were.


def check_papers(room, row, count):
    """Refuses papers whose row is none of the room, or whose count is out of bounds."""
    if not is_row(room, row):
        raise BadRow("the row is none of the room")
    if not 1 <= count <= MOST_COUNT:
        raise BadCount("the count is not 1 to 10 ** 12")


def check_open(opened, name):
    """Refuses a name that no open room has."""
    if name not in opened:
        raise NoRoom("no room of that name is open")


def found_room(opened, name):
    """The (room, tally) of the open room of this name."""
    check_open(opened, name)
    return opened[name]


def with_room(opened, name, room, rows):
    """What is open with this room and tally: a new room comes last, one that is there keeps its place."""
    changed = dict(opened)
    changed[name] = (room, rows)
    return changed


def started(questions, opened, deed):
    """What is open behind ("start", name, room, rows)."""
    name, room, rows = deed[1:]
    if not is_name(name):
        raise BadName("the text is no name")
    if name in opened:
        raise Taken("a room of that name is open")
    if not is_room(room) or len(room) == 0 or not within(room, questions):
        raise BadRoom("the names are no room of some questions of the house")
    if not is_tally(room, rows) or any([count > MOST_COUNT for row, count in rows]):
        raise BadTally("the rows are no tally of the room, or a count is above 10 ** 12")
    if len(opened) >= MOST_ROOMS:
        raise Full("8 rooms are open")
    return with_room(opened, name, room, rows)


def shut(questions, opened, deed):
    """What is open behind ("shut", name)."""
    name = deed[1]
    check_open(opened, name)
    return {other: opened[other] for other in opened if other != name}


def entered(questions, opened, deed):
    """What is open behind ("enter", row, count)."""
    row, count = deed[1:]
    check_papers(questions, row, count)
    changed = {}
    for name, (room, rows) in opened.items():
        changed[name] = (room, plus(rows, [(share(questions, row, room), count)]))
    return changed


def withdrawn(questions, opened, deed):
    """What is open behind ("withdraw", row, count)."""
    row, count = deed[1:]
    check_papers(questions, row, count)
    changed = {}
    # The first room that has too few refuses with its own share, as rooms are walked in the order of starting.
    for name, (room, rows) in opened.items():
        changed[name] = (room, less(rows, [(share(questions, row, room), count)]))
    return changed


def marked(questions, opened, deed):
    """What is open behind ("mark", name, row, count)."""
    name, row, count = deed[1:]
    room, rows = found_room(opened, name)
    check_papers(room, row, count)
    return with_room(opened, name, room, plus(rows, [(row, count)]))


def stricken(questions, opened, deed):
    """What is open behind ("strike", name, row, count)."""
    name, row, count = deed[1:]
    room, rows = found_room(opened, name)
    check_papers(room, row, count)
    return with_room(opened, name, room, less(rows, [(row, count)]))


# All of them are called in one way, so each takes the questions of the house, whether it asks for them or not.
DEEDS = {
    "start": started,
    "shut": shut,
    "enter": entered,
    "withdraw": withdrawn,
    "mark": marked,
    "strike": stricken,
}


def own_deed(deed):
    """The deed with a tally of its own, so that whoever has the one can't change the other."""
    if deed[0] == "start":
        word, name, room, rows = deed
        return (word, name, room, list(rows))
    return deed


def open_rooms(opened):
    """The questions of each open room."""
    return [room for room, rows in opened.values()]


def open_tallies(opened):
    """The tally of each open room."""
    return [rows for room, rows in opened.values()]


def named_bars(opened):
    """The bars, by names."""
    names = list(opened)
    told = bars(open_rooms(opened), open_tallies(opened))
    return [(names[place], names[other], row) for place, other, row in told]


def named_whole(opened):
    """The answer of the whole count, by names."""
    told = whole(open_rooms(opened), open_tallies(opened))
    if told[0] != "bar":
        return told
    names = list(opened)
    word, place, other, row = told
    return (word, names[place], names[other], row)


def named_paper(opened):
    """The paper of the open rooms, an order by names."""
    told = paper(open_rooms(opened))
    if told[0] != "order":
        return told
    names = list(opened)
    return ("order", [(names[place], names[other]) for place, other in told[1]])


def named_borne(opened):
    """The tallies that the knot of the open rooms bears, by names."""
    rooms = open_rooms(opened)
    told = paper(rooms)
    if told[0] == "order":
        raise Hangs("the rooms hang")
    return [(name, rows) for name, rows in zip(opened, borne(rooms, told))]


class House:
    """Rooms with names that look at some questions each, and the deeds that were done in it."""

    def __init__(self, questions):
        if not is_room(questions) or len(questions) == 0:
            raise BadRoom("the names are no room of 1 to 6 questions")
        self.asked = questions
        self.opened = {}
        # Pairs of a deed and what was open on its other side: ahead of it in `past`, behind it in `undone`.
        self.past = []
        self.undone = []

    def do(self, deed):
        """Does the deed and keeps it; what could be done again is let go."""
        kept = own_deed(deed)
        work = DEEDS[kept[0]]
        changed = work(self.asked, self.opened, kept)
        self.past.append((kept, self.opened))
        self.opened = changed
        self.undone = []

    def back(self):
        """Takes the last deed back, and tells it."""
        if not self.past:
            raise NoBack("there is no deed to take back")
        deed, ahead = self.past.pop()
        self.undone.append((deed, self.opened))
        self.opened = ahead
        return own_deed(deed)

    def again(self):
        """Does again what was taken back last, and tells it."""
        if not self.undone:
            raise NoBack("there is no deed to do again")
        deed, behind = self.undone.pop()
        self.past.append((deed, self.opened))
        self.opened = behind
        return own_deed(deed)

    def deeds(self):
        """The deeds that are kept, the eldest first."""
        return [own_deed(deed) for deed, ahead in self.past]

    def questions(self):
        """The room of all questions of the house."""
        return self.asked

    def rooms(self):
        """The names of the open rooms, in the order of starting."""
        return list(self.opened)

    def room(self, name):
        """The questions of the room of this name."""
        return found_room(self.opened, name)[0]

    def tally(self, name):
        """The tally of the room of this name."""
        return list(found_room(self.opened, name)[1])

    def bars(self):
        """The list of (name, other, row) for all two rooms that disagree, in the order of rooms."""
        return named_bars(self.opened)

    def whole(self):
        """The answer of the whole count, with names in the place of places."""
        return named_whole(self.opened)

    def paper(self):
        """The paper of the rooms, with pairs of names in an order."""
        return named_paper(self.opened)

    def borne(self):
        """The list of (name, tally) that the rooms' knot bears; Hangs where they hang."""
        return named_borne(self.opened)

    def twin(self):
        """A house like this one, also in what can be taken back and done again, that goes its own way."""
        other = House(self.asked)
        other.opened = self.opened
        other.past = list(self.past)
        other.undone = list(self.undone)
        return other
