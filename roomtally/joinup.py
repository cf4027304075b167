"""Two tallies that agree, joined corner by corner."""

from roomtally.agree import bar
from roomtally.errors import Apart
from roomtally.rows import common, picked, places, united


def grouped(room, rows, part):
    """The pairs (row, count) of a tally of the room, in lists by their share for the part."""
    spots = places(room, part)
    groups = {}
    for row, count in rows:
        groups.setdefault(picked(row, spots), []).append((row, count))
    return groups


def corners(first, second):
    """The (row, other row, count) that go together, of two lists of pairs (row, count) with one total."""
    ones = [count for row, count in first]
    others = [count for row, count in second]
    found = []
    at = by = 0
    while at < len(first) and by < len(second):
        many = min(ones[at], others[by])
        found.append((first[at][0], second[by][0], many))
        ones[at] -= many
        others[by] -= many
        # Both may be used up at once, and then both go on: so fewer rows come than both had.
        if ones[at] == 0:
            at += 1
        if others[by] == 0:
            by += 1
    return found


def joined(room, rows, other_room, other_rows):
    """The tally of all questions of both rooms whose shares are the two tallies."""
    row = bar(room, rows, other_room, other_rows)
    if row is not None:
        raise Apart(row)
    part = common(room, other_room)
    ones = grouped(room, rows, part)
    others = grouped(other_room, other_rows, part)
    spots = places(room + other_room, united(room, other_room))
    found = []
    # Two tallies that agree have the same shares, so each key of the one is the other's too.
    for key in ones:
        for one, other, many in corners(ones[key], others[key]):
            found.append((picked(one + other, spots), many))
    return sorted(found)
