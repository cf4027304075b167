"""Tallies: made of papers, added, taken away, and shared."""

from roomtally.errors import BadCount, BadRow, TooFew
from roomtally.rows import is_row, picked, places, rises


def is_tally(room, rows):
    """True where the list is a tally of the room."""
    if not all([is_row(room, row) and count >= 1 for row, count in rows]):
        return False
    return rises([row for row, count in rows])


def summed(papers):
    """The tally of papers that are known to be without fault."""
    counts = {}
    for row, count in papers:
        counts[row] = counts.get(row, 0) + count
    return [(row, counts[row]) for row in sorted(counts) if counts[row] > 0]


def made(room, papers):
    """The tally of the room that these papers make."""
    for row, count in papers:
        if not is_row(room, row):
            raise BadRow("a paper's row is none of the room")
        if count < 0:
            raise BadCount("a paper's count is below 0")
    return summed(papers)


def plus(one, other):
    """The two tallies of one room added row by row."""
    return summed(one + other)


def less(one, other):
    """The second tally taken away from the first one row by row."""
    counts = dict(one)
    # The rows of a tally rise, so the first one that is too few is the least.
    for row, count in other:
        left = counts.get(row, 0) - count
        if left < 0:
            raise TooFew(row)
        counts[row] = left
    return summed(list(counts.items()))


def total(rows):
    """The sum of all counts."""
    return sum([count for row, count in rows])


def shared(room, rows, part):
    """The share of a tally of the room for the questions of the part."""
    spots = places(room, part)
    return summed([(picked(row, spots), count) for row, count in rows])
