"""Which two rooms disagree, and the bar between them."""

from roomtally.rows import common
from roomtally.tally import shared


def bar(room, rows, other_room, other_rows):
    """The least row of the shared questions that the two count differently, or None where they agree."""
    part = common(room, other_room)
    one = dict(shared(room, rows, part))
    other = dict(shared(other_room, other_rows, part))
    apart = [row for row in list(one) + list(other) if one.get(row, 0) != other.get(row, 0)]
    return min(apart, default=None)


def bars(rooms, tallies):
    """The list of (place, other, row) for all two rooms of the list that disagree."""
    found = []
    for place in range(len(rooms)):
        for other in range(place + 1, len(rooms)):
            row = bar(rooms[place], tallies[place], rooms[other], tallies[other])
            # The bar of rooms that share no question is the row (), which counts as no truth.
            if row is not None:
                found.append((place, other, row))
    return found
