"""Lists of rooms: ears and hosts, and the paper that tells an order or a knot."""

from roomtally.rows import rises, within

LEAST_RING = 4
LEAST_ALLBUT = 3


def all_questions(rooms):
    """The room of all questions of a list of rooms."""
    return tuple(sorted(set([name for room in rooms for name in room])))


def hosts(rooms, there, place):
    """The places, of those that are still there, of all hosts of the room at one of them."""
    others = [other for other in there if other != place]
    met = [name for name in rooms[place] if any([name in rooms[other] for other in others])]
    return [other for other in others if within(met, rooms[other])]


def host(rooms, place):
    """The least place of a host of the room at this place, or None where it is no ear of the list."""
    return min(hosts(rooms, list(range(len(rooms))), place), default=None)


def first_ear(rooms, there):
    """The pair (place, host) of the first ear of the rooms that are still there, or None."""
    for place in there:
        found = hosts(rooms, there, place)
        if found:
            return (place, found[0])
    return None


def order(rooms):
    """The list of pairs (place, host) that takes all rooms but one off, or None where they do not hang."""
    there = list(range(len(rooms)))
    row = []
    while len(there) > 1:
        # Whichever ear goes first, what is left hangs just where all did: there is no need to try others.
        pair = first_ear(rooms, there)
        if pair is None:
            return None
        row.append(pair)
        there.remove(pair[0])
    return row


def is_order(rooms, row):
    """True where the pairs take all rooms but one off, each an ear with its host among those still there."""
    there = list(range(len(rooms)))
    for place, other in row:
        if place not in there or other not in hosts(rooms, there, place):
            return False
        there.remove(place)
    return len(there) <= 1


def together(rooms, names):
    """True where all these questions stand together in some room."""
    return any([within(names, room) for room in rooms])


def is_ring(rooms, row):
    """True where just the neighbours of the row stand together, and none is in it twice."""
    many = len(row)
    if many < LEAST_RING or len(set(row)) != many:
        return False
    for at in range(many):
        for ahead in range(at):
            near = at - ahead in (1, many - 1)
            if together(rooms, [row[ahead], row[at]]) != near:
                return False
    return True


def is_allbut(rooms, row):
    """True where the row rises, all but any one of it stand together, and all of it do not."""
    if len(row) < LEAST_ALLBUT or not rises(row) or together(rooms, row):
        return False
    return all([together(rooms, row[:at] + row[at + 1:]) for at in range(len(row))])


def parts(names):
    """All lists of some of the names, each in their order."""
    found = [[]]
    for name in names:
        found = found + [part + [name] for part in found]
    return found


def walk(rooms, part):
    """A row of the part's questions, each standing together with the one ahead of it, as far as it goes."""
    row = []
    ahead = part[:1]
    while ahead:
        row.append(ahead[0])
        ahead = [name for name in part if name not in row and together(rooms, [name, row[-1]])]
    return row


def knot(rooms):
    """A knot of the list of rooms, or None where they hang."""
    for part in parts(all_questions(rooms)):
        if is_allbut(rooms, part):
            return ("allbut", part)
        # Where the part makes a ring, each walk through it goes round the whole of it.
        row = walk(rooms, part)
        if is_ring(rooms, row):
            return ("ring", row)
    return None


def paper(rooms):
    """The paper of a list of rooms: ("order", row), or a knot where there is no order."""
    row = order(rooms)
    if row is None:
        return knot(rooms)
    return ("order", row)


def good_paper(rooms, told):
    """True where the paper is one of this list of rooms."""
    word, row = told
    if word == "order":
        return is_order(rooms, row)
    if word == "ring":
        return is_ring(rooms, row)
    return word == "allbut" and is_allbut(rooms, row)
