"""The desk: a house that is spoken to line by line."""

from roomtally.errors import BadCount, BadRoom, BadRow, BadTally, BadText, Full, NoBack, NoRoom, Taken, TooFew
from roomtally.house import House
from roomtally.notes import deed_text, read_deed, room_text, row_text, tally_text
from roomtally.rows import is_name


def listed(things):
    """The texts with a comma and a blank between, or the word for none."""
    if len(things) == 0:
        return "none"
    return ", ".join(things)


def back_text(house):
    """The deed that is taken back."""
    return deed_text(house.back())


def again_text(house):
    """The deed that is done again."""
    return deed_text(house.again())


def rooms_text(house):
    """The rooms with their questions."""
    return listed([f"{name} {room_text(house.room(name))}" for name in house.rooms()])


def bars_text(house):
    """The bars with their names."""
    return listed([f"{name} {other} {row_text(row)}" for name, other, row in house.bars()])


def whole_text(house):
    """The word for what the house answers of its whole count."""
    word = house.whole()[0]
    if word in ("count", "bar"):
        return word
    return "knot"


ANSWERS = {
    "back": back_text,
    "again": again_text,
    "rooms": rooms_text,
    "bars": bars_text,
    "whole": whole_text,
}


def answer(house, line):
    """The answer to the line; what the house refuses is refused here too."""
    if line in ANSWERS:
        work = ANSWERS[line]
        return work(house)
    words = line.split(" ")
    if len(words) == 2 and words[0] == "tally" and is_name(words[1]):
        return tally_text(house.tally(words[1]))
    try:
        deed = read_deed(line)
    except BadText:
        return "no line"
    house.do(deed)
    return "done"


class Desk:
    """A desk with a house of its own."""

    def __init__(self, questions):
        self.held = House(questions)

    def say(self, line):
        """The answer to the line, by a text."""
        # A line is read to names alone, and neither joins tallies nor asks what a knot bears: these are all
        # refusals that it can meet.
        try:
            return answer(self.held, line)
        except BadRoom:
            return "refused badroom"
        except BadRow:
            return "refused badrow"
        except BadTally:
            return "refused badtally"
        except BadCount:
            return "refused badcount"
        except NoRoom:
            return "refused noroom"
        except Taken:
            return "refused taken"
        except Full:
            return "refused full"
        except TooFew:
            return "refused toofew"
        except NoBack:
            return "refused noback"

    def house(self):
        """A twin of the desk's house."""
        return self.held.twin()
