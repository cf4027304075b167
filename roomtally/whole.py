"""The whole count behind the tallies of a list of rooms, or what stands in its way."""

from roomtally.agree import bars
from roomtally.hanging import all_questions, paper
from roomtally.joinup import joined
from roomtally.rows import united
from roomtally.tally import shared


def is_whole(rooms, tallies, rows):
    """True where the share for each room of this tally of all questions is that room's tally."""
    questions = all_questions(rooms)
    return all([shared(questions, rows, room) == tally for room, tally in zip(rooms, tallies)])


def counted(rooms, tallies, order):
    """A whole count of rooms that hang by this order, where each two of the tallies agree."""
    off = [place for place, other in order]
    left = [place for place in range(len(rooms)) if place not in off]
    if len(left) == 0:
        return []
    questions = rooms[left[0]]
    rows = list(tallies[left[0]])
    # Put on again from the last one to the first, each room shares with all that is there only questions of its
    # host, with which it agrees: so no two are apart, and no join brings more rows than both had.
    for place in reversed(off):
        rows = joined(questions, rows, rooms[place], tallies[place])
        questions = united(questions, rooms[place])
    return rows


def whole(rooms, tallies):
    """The answer for a list of rooms and tallies: the least bar, else a whole count, else the knot."""
    found = bars(rooms, tallies)
    if found:
        place, other, row = found[0]
        return ("bar", place, other, row)
    told = paper(rooms)
    if told[0] != "order":
        return told
    return ("count", all_questions(rooms), counted(rooms, tallies, told[1]))
