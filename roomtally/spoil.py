"""The tallies that a knot bears: each two agree, and no row of answers fits them all."""

from roomtally.rows import common, within
from roomtally.tally import shared


def ring_pieces(names):
    """Pairs (part, tally of the part), one for each two neighbours of a ring."""
    pieces = []
    for at in range(len(names)):
        pair = tuple(sorted([names[at - 1], names[at]]))
        # Neighbours answer alike but where the ring closes: no row of answers can go all the way round.
        turn = 1 if at == 0 else 0
        pieces.append((pair, [((0, turn), 1), ((1, 1 - turn), 1)]))
    return pieces


def answer_rows(many, base):
    """All rows of so many answers below the base, rising."""
    rows = [()]
    for step in range(many):
        rows = [row + (answer,) for row in rows for answer in range(base)]
    return rows


def least_divisor(number):
    """The least divisor above 1 of a number above 1."""
    base = 2
    while number % base != 0:
        base += 1
    return base


def allbut_pieces(names):
    """Pairs (part, tally of the part), one for all questions but each."""
    many = len(names) - 1
    # Each question is in `many` of the parts, so the sums of a row's answers over all parts add up to a
    # multiple of `many`, and so of the base. The rests that are asked of them add up to 1: no row has them all.
    base = least_divisor(many)
    rows = answer_rows(many, base)
    pieces = []
    for at in range(len(names)):
        part = tuple(names[:at] + names[at + 1:])
        rest = 1 if at == 0 else 0
        pieces.append((part, [(row, 1) for row in rows if sum(row) % base == rest]))
    return pieces


def stretched(room, part, rows):
    """A tally of a part of the room as one of the room, in which each other question is answered by 0."""
    found = []
    for row, count in rows:
        answers = dict(zip(part, row))
        found.append((tuple([answers.get(name, 0) for name in room]), count))
    return found


def room_tally(room, names, pieces):
    """The room's tally: the share of a piece that has all questions of the knot that the room has."""
    part = common(room, names)
    # Several pieces may do, and it is no matter which: for less than a whole part all have the same share.
    fits = [pair for pair in pieces if within(part, pair[0])]
    piece, rows = fits[0]
    return stretched(room, part, shared(piece, rows, part))


def borne(rooms, told):
    """A list of tallies, one for each room, that the knot bears."""
    word, names = told
    pieces = ring_pieces(names) if word == "ring" else allbut_pieces(names)
    return [room_tally(room, tuple(names), pieces) for room in rooms]
