"""Many rooms, their ears, hosts and papers: promises [1], [7] and [8]."""

import copy
import itertools
import random
import unittest

from roomtally.hanging import all_questions, good_paper, host, paper

SIX = ("a", "b", "c", "d", "e", "f")


def parts(names):
    """All rooms of some of the names."""
    return [part for many in range(len(names) + 1) for part in itertools.combinations(names, many)]


def ring_rooms(row):
    """The rooms of each two neighbours of a ring."""
    return [tuple(sorted((row[at], row[at - 1]))) for at in range(len(row))]


def allbut_rooms(names):
    return list(itertools.combinations(names, len(names) - 1))


def own_order(rooms, row):
    """The walk through an order that [8] tells, room by room."""
    left = dict(enumerate(rooms))
    for place, other in row:
        if place not in left or other not in left or place == other:
            return False
        gone = set(left.pop(place))
        elsewhere = {name for room in left.values() for name in room}
        if not gone & elsewhere <= set(left[other]):
            return False
    return len(left) <= 1


def own_ring(rooms, row):
    links = {frozenset(pair) for room in rooms for pair in itertools.combinations(room, 2)}
    wanted = {frozenset((row[at], row[at - 1])) for at in range(len(row))}
    return len(row) >= 4 and len(set(row)) == len(row) and {link for link in links if link <= set(row)} == wanted


def own_allbut(rooms, row):
    held = [set(room) for room in rooms]
    names = set(row)
    if len(row) < 3 or row != sorted(names) or any(names <= room for room in held):
        return False
    return all(any(names - {name} <= room for room in held) for name in names)


def own_good(rooms, told):
    """A walk through [8] of the test's own."""
    return {"order": own_order, "ring": own_ring, "allbut": own_allbut}[told[0]](rooms, told[1])


def own_hangs(rooms):
    """True where any order at all takes all rooms but one off."""
    if len(rooms) <= 1:
        return True
    for at, room in enumerate(rooms):
        rest = rooms[:at] + rooms[at + 1:]
        met = {name for name in room if any(name in other for other in rest)}
        if any(met <= set(other) for other in rest) and own_hangs(rest):
            return True
    return False


def own_knots(rooms):
    """All knots of the list of rooms."""
    names = sorted({name for room in rooms for name in room})
    found = []
    for part in parts(names):
        if own_allbut(rooms, list(part)):
            found.append(("allbut", list(part)))
        if len(part) >= 4:
            found += [("ring", list(row)) for row in itertools.permutations(part) if own_ring(rooms, list(row))]
    return found


HANGING = (
    [],
    [()],
    [("a",)],
    [SIX],
    [(), ()],
    [("a",), ("b",)],
    [("a", "b"), ("a", "b")],
    [("a", "b", "c")] * 8,
    [()] * 8,
    [("a",), ("b",), ("c",), ("d",), ("e",), ("f",), (), ()],
    [("a", "b"), ("b", "c"), ("c", "d"), ("d", "e"), ("e", "f")],
    [("a", "b"), ("a", "c"), ("a", "d"), ("a", "e"), ("a", "f"), ("a",), (), ("a", "f")],
    [("a", "b"), ("b", "c"), ("a", "c"), ("a", "b", "c")],
    [("a", "b", "c"), ("a", "c", "e"), ("c", "d", "e"), ("a", "e", "f"), ("a", "c", "e")],
    [("a", "b"), ("b", "c"), ("c", "d"), ("a", "d"), ("a", "b", "c", "d")],
    [("a", "b", "c", "d"), ("b", "c", "d", "e"), ("c", "d", "e", "f"), ("d",), ("b", "d")],
    [("a", "b"), ("c", "d"), ("e", "f"), ("b",), ("c",)],
    [("cat", "dog"), ("ape", "dog"), ("ape",), ("cow",)],
)

KNOTTED = (
    [("a", "b"), ("b", "c"), ("a", "c")],
    [("a", "b"), ("b", "c"), ("a", "c"), (), ("a",), ("a", "b"), ("c", "d"), ("d", "e")],
    [("a", "b", "d"), ("b", "c", "e"), ("a", "c", "f")],
    [("a", "b"), ("b", "c"), ("c", "d"), ("a", "d")],
    [("a", "cow"), ("ape", "dog"), ("ape", "cow"), ("a", "dog"), ("ape", "b")],
    [("a", "b", "e"), ("b", "c"), ("c", "d", "f"), ("a", "d"), ("e",), ("f",), (), ("a", "b")],
    [("a", "b"), ("b", "c"), ("c", "d"), ("d", "e"), ("a", "e")],
    [("a", "b"), ("b", "c"), ("c", "d"), ("d", "e"), ("a", "e"), ("e", "f"), ("e", "f"), ("c",)],
    [("a", "b"), ("b", "c"), ("c", "d"), ("d", "e"), ("e", "f"), ("a", "f")],
    [("a", "d"), ("b", "d"), ("b", "e"), ("c", "e"), ("c", "f"), ("a", "f"), ("a",), ()],
    [("a", "b", "c"), ("a", "b", "d"), ("a", "c", "d"), ("b", "c", "d")],
    [("a", "b", "c", "e"), ("a", "b", "d"), ("a", "c", "d", "f"), ("b", "c", "d"), ("a", "b"), ("e",)],
    allbut_rooms(SIX[:5]),
    allbut_rooms(SIX),
    allbut_rooms(SIX) + [SIX[1:], ("c",)],
    # Each two stand together, and yet no room has all: the triangle is the ring of three.
    [("a", "b", "c"), ("c", "d", "e"), ("a", "e", "f")],
    [("a", "b"), ("c", "d"), ("b", "c"), ("a", "d"), ("a", "c", "e"), ("a", "c", "f")],
)


class AllQuestions(unittest.TestCase):
    def told(self, wanted, rooms):
        kept = copy.deepcopy(rooms)
        with self.subTest(rooms):
            self.assertEqual(all_questions(rooms), wanted)
            self.assertIsInstance(all_questions(rooms), tuple)
            self.assertEqual(rooms, kept)

    def test_a_few_lists(self):
        self.told((), [])
        self.told((), [()])
        self.told((), [(), ()])
        self.told(("a", "c"), [("a", "c")])
        self.told(("a", "c"), [("a", "c"), ("a", "c"), ()])
        self.told(("a", "b", "c"), [("c",), ("b",), ("a",)])
        self.told(("a", "b", "c", "d"), [("b", "d"), ("a", "d"), ("c",), ("b", "c")])
        self.told(("aa", "ab", "b"), [("b",), ("aa", "b"), ("ab",)])
        self.told(SIX, [("f",), ("e", "f"), ("a", "d"), ("c",), ("b", "c")])

    def test_all_lists_of_three_rooms(self):
        for rooms in itertools.product(parts(SIX[:3]), repeat=3):
            self.told(tuple(sorted(set(rooms[0] + rooms[1] + rooms[2]))), list(rooms))


class Host(unittest.TestCase):
    def told(self, wanted, rooms, place):
        kept = copy.deepcopy(rooms)
        with self.subTest(rooms=rooms, place=place):
            found = host(rooms, place)
            self.assertEqual(found, wanted)
            self.assertIsInstance(found, type(wanted))
            self.assertEqual(rooms, kept)

    def test_one_room_has_no_host(self):
        for room in ((), ("a",), SIX):
            self.told(None, [room], 0)

    def test_alike_rooms(self):
        self.told(1, [("a", "b"), ("a", "b")], 0)
        self.told(0, [("a", "b"), ("a", "b")], 1)
        for place in range(8):
            self.told(1 if place == 0 else 0, [("a", "b")] * 8, place)

    def test_rooms_without_questions(self):
        self.told(1, [(), ()], 0)
        self.told(0, [(), ()], 1)
        self.told(1, [(), ("a", "b"), ("c",)], 0)
        self.told(0, [("a", "b"), (), ("c",)], 1)
        self.told(0, [(), ("a",)], 1)
        self.told(2, [(), ("a",), ("a", "b")], 1)

    def test_a_room_that_meets_no_other_has_each_as_its_host(self):
        self.told(1, [("a",), ("b", "c"), ("b", "c")], 0)
        self.told(0, [("b", "c"), ("b", "c"), ("a",)], 2)

    def test_the_least_of_several_hosts(self):
        rooms = [("c", "d"), ("a", "b"), ("b", "c"), ("b",), ("a", "b", "e")]
        self.told(4, rooms, 1)
        self.told(1, rooms, 3)
        self.told(2, rooms, 0)
        self.told(1, rooms, 4)
        self.told(None, rooms, 2)
        self.told(2, [("a",), ("b", "x"), ("c", "x"), ("c", "d")], 3)

    def test_its_own_questions_do_not_count(self):
        self.told(1, [("a", "b", "c", "d"), ("d", "e")], 0)
        self.told(0, [("a", "b", "c", "d"), ("d", "e")], 1)

    def test_no_host(self):
        for rooms in ([("a", "b"), ("b", "c"), ("a", "c")], ring_rooms("abcd"), ring_rooms("abcdef"), allbut_rooms(SIX)):
            for place in range(len(rooms)):
                self.told(None, list(rooms), place)

    def test_a_host_has_all_of_them_alone(self):
        self.told(None, [("a", "b"), ("a",), ("b",)], 0)
        self.told(3, [("a", "b"), ("a",), ("b",), ("a", "b", "c")], 0)

    def test_all_lists_of_two_and_three_rooms(self):
        for many in (2, 3):
            for rooms in itertools.product(parts(SIX[:3]), repeat=many):
                for place in range(many):
                    met = set()
                    for other in range(many):
                        met |= set(rooms[place]) & set(rooms[other]) if other != place else set()
                    hosts = [other for other in range(many) if other != place and met <= set(rooms[other])]
                    self.told(hosts[0] if hosts else None, list(rooms), place)


class PaperCase(unittest.TestCase):
    def told_paper(self, rooms):
        """The paper of the rooms is good by the walk of this test; what was handed in stays, what is told is new."""
        kept = copy.deepcopy(rooms)
        with self.subTest(rooms):
            told = paper(rooms)
            self.assertEqual(rooms, kept)
            self.assertIsInstance(told, tuple)
            self.assertEqual(len(told), 2)
            self.assertIsInstance(told[1], list)
            self.assertIn(told[0], ("order", "ring", "allbut"))
            for thing in told[1]:
                self.assertIsInstance(thing, tuple if told[0] == "order" else str)
            self.assertTrue(own_good(rooms, told), told)
            self.judged(True, rooms, told)
            again = copy.deepcopy(told)
            told[1].append("told")
            self.assertEqual(rooms, kept)
            self.assertTrue(own_good(rooms, paper(rooms)))
            return again

    def judged(self, wanted, rooms, told):
        """The paper is judged as wanted, and the rooms and the paper stay as they were."""
        kept = copy.deepcopy((rooms, told))
        with self.subTest(rooms=rooms, told=told):
            self.assertIs(good_paper(rooms, told), wanted)
            self.assertEqual((rooms, told), kept)


class Paper(PaperCase):
    def test_rooms_that_hang(self):
        for rooms in HANGING:
            told = self.told_paper(list(rooms))
            self.assertEqual(told[0], "order", rooms)
            self.assertEqual(len(told[1]), max(0, len(rooms) - 1))
            self.assertEqual(own_knots(rooms), [])

    def test_no_room_and_one(self):
        self.assertEqual(paper([]), ("order", []))
        self.assertEqual(paper([()]), ("order", []))
        self.assertEqual(paper([("a", "b")]), ("order", []))

    def test_knots(self):
        for rooms in KNOTTED:
            told = self.told_paper(list(rooms))
            self.assertIn(told[0], ("ring", "allbut"), rooms)
            self.assertIs(own_hangs(list(rooms)), False)

    def test_rings_alone(self):
        for many in (4, 5, 6):
            for names in itertools.permutations(SIX[:many]):
                if names[0] != "a" or names[1] > names[-1]:
                    continue
                rooms = ring_rooms(names)
                word, row = self.told_paper(rooms)
                self.assertEqual((word, len(row)), ("ring", many))
                self.told_paper(rooms[::-1])

    def test_rings_with_other_rooms_beside_them_and_within(self):
        chance = random.Random(3)
        for turn in range(80):
            many = 4 + turn % 2
            names = list(SIX)
            chance.shuffle(names)
            ring, more = names[:many], names[many:]
            rooms = [tuple(sorted(room + tuple(name for name in more if chance.random() < 0.3)))
                     for room in ring_rooms(ring)]
            while len(rooms) < 8:
                room = chance.choice(rooms)
                rooms.append(tuple(name for name in room if chance.random() < 0.6))
            chance.shuffle(rooms)
            self.assertIn(self.told_paper(rooms)[0], ("ring", "allbut"))

    def test_allbut_knots_alone(self):
        for many in (3, 4, 5, 6):
            for names in itertools.combinations(SIX, many):
                self.assertEqual(self.told_paper(allbut_rooms(names)), ("allbut", list(names)))
                self.assertEqual(self.told_paper(allbut_rooms(names)[::-1]), ("allbut", list(names)))

    def test_allbut_knots_with_other_rooms_beside_them_and_within(self):
        chance = random.Random(4)
        for turn in range(80):
            many = 3 + turn % 4
            names = sorted(chance.sample(SIX, many))
            more = [name for name in SIX if name not in names]
            rooms = [tuple(sorted(room + tuple(name for name in more if chance.random() < 0.3)))
                     for room in allbut_rooms(names)]
            while len(rooms) < 8:
                room = chance.choice(rooms)
                rooms.append(tuple(name for name in room if chance.random() < 0.6))
            chance.shuffle(rooms)
            self.assertIn(self.told_paper(rooms)[0], ("ring", "allbut"))

    def test_an_order_just_where_the_rooms_hang_and_else_a_knot(self):
        lists = [list(rooms) for many in (2, 3) for rooms in itertools.combinations(parts(SIX[:4]), many)]
        lists += [list(rooms) for rooms in itertools.combinations(parts(SIX[:4])[5:], 4)]
        for rooms in lists:
            word = self.told_paper(rooms)[0]
            self.assertIs(word == "order", own_hangs(rooms), rooms)
            self.assertIs(word == "order", own_knots(rooms) == [], rooms)

    def test_more_questions_and_rooms_than_the_bounds(self):
        names = SIX + ("g", "h")
        self.assertEqual(self.told_paper([names[at:at + 2] for at in range(7)] + [(), ("a",), names])[0], "order")
        self.assertEqual(self.told_paper(ring_rooms(names) + [(), ("a",)])[0], "ring")
        self.assertEqual(self.told_paper(allbut_rooms(names) + [("a", "b")]), ("allbut", list(names)))

    def test_lists_of_up_to_eight_rooms_of_six_questions(self):
        chance = random.Random(11)
        words = []
        for turn in range(300):
            often = chance.choice((0.2, 0.35, 0.5, 0.8))
            rooms = [tuple(name for name in SIX if chance.random() < often) for place in range(turn % 9)]
            words.append(self.told_paper(rooms)[0])
            if len(rooms) <= 5:
                self.assertIs(words[-1] == "order", own_hangs(rooms), rooms)
        self.assertGreater(words.count("order"), 30)
        self.assertGreater(len(words) - words.count("order"), 30)


class GoodOrder(PaperCase):
    def test_no_room_and_one(self):
        for rooms in ([], [()], [("a",)]):
            self.judged(True, rooms, ("order", []))
            for pair in ((0, 0), (0, 1), (1, 0), (-1, 0), (0, -1), (-1, -1)):
                self.judged(False, rooms, ("order", [pair]))

    def test_each_list_of_pairs_for_two_rooms(self):
        numbers = (-2, -1, 0, 1, 2, 10 ** 20)
        pairs = list(itertools.product(numbers, repeat=2))
        for rooms in ([(), ()], [("a",), ("b",)], [("a", "b"), ("b", "c")], [("a",), ("a",)]):
            self.judged(False, rooms, ("order", []))
            for pair in pairs:
                self.judged(pair in ((0, 1), (1, 0)), rooms, ("order", [pair]))
                for other in pairs:
                    self.judged(False, rooms, ("order", [pair, other]))

    def test_each_list_of_two_pairs_for_three_rooms(self):
        pairs = list(itertools.product((-1, 0, 1, 2, 3), repeat=2))
        for rooms in itertools.product(((), ("a",), ("a", "b"), ("b", "c"), ("a", "c")), repeat=3):
            for row in itertools.product(pairs, repeat=2):
                if good_paper(list(rooms), ("order", list(row))) is not own_order(rooms, row):
                    self.fail((rooms, row))

    def test_a_path(self):
        rooms = [("a", "b"), ("b", "c"), ("c", "d"), ("d", "e")]
        for row in ([(0, 1), (1, 2), (2, 3)], [(3, 2), (2, 1), (1, 0)], [(0, 1), (3, 2), (1, 2)], [(0, 1), (3, 2), (2, 1)]):
            self.judged(True, rooms, ("order", row))
        self.judged(False, rooms, ("order", [(0, 1), (1, 2)]))
        self.judged(False, rooms, ("order", [(0, 1), (1, 2), (1, 2)]))
        self.judged(False, rooms, ("order", [(0, 1), (0, 1), (1, 2)]))
        self.judged(False, rooms, ("order", [(0, 1), (1, 2), (2, 3), (2, 3)]))
        self.judged(False, rooms, ("order", [(0, 1), (1, 2), (2, 3), (3, 3)]))
        self.judged(False, rooms, ("order", [(0, 1), (1, 2), (2, 3), (3, 2)]))
        self.judged(False, rooms, ("order", [(1, 2), (0, 1), (2, 3)]))
        self.judged(False, rooms, ("order", [(0, 1), (2, 3), (1, 3)]))

    def test_a_host_that_is_none_or_gone(self):
        rooms = [("a", "b"), ("b", "c"), ("c", "d")]
        self.judged(True, rooms, ("order", [(0, 1), (1, 2)]))
        self.judged(True, rooms, ("order", [(0, 1), (2, 1)]))
        self.judged(False, rooms, ("order", [(0, 2), (1, 2)]))
        self.judged(False, rooms, ("order", [(0, 0), (1, 2)]))
        self.judged(False, rooms, ("order", [(0, 1), (1, 0)]))
        self.judged(False, rooms, ("order", [(0, 1), (1, 1)]))
        self.judged(False, rooms, ("order", [(0, 1), (2, 0)]))
        alike = [("a", "b")] * 3
        self.judged(True, alike, ("order", [(0, 2), (2, 1)]))
        self.judged(False, alike, ("order", [(0, 2), (2, 0)]))
        self.judged(False, alike, ("order", [(0, 0), (1, 2)]))

    def test_places_that_the_list_has_not(self):
        rooms = [("a", "b"), ("b", "c"), ("c", "d")]
        self.judged(False, rooms, ("order", [(-3, 1), (1, 2)]))
        self.judged(False, rooms, ("order", [(0, -2), (1, 2)]))
        self.judged(False, rooms, ("order", [(0, 1), (1, -1)]))
        self.judged(False, rooms, ("order", [(0, 1), (1, 3)]))
        self.judged(False, rooms, ("order", [(0, 1), (3, 2)]))
        self.judged(False, rooms, ("order", [(0, 1), (10 ** 20, 2)]))
        self.judged(False, [("a",), ("a",), ("a",)], ("order", [(0, 1), (3, 1)]))

    def test_questions_of_rooms_that_are_gone_do_not_count(self):
        rooms = [("a", "b", "c"), ("a", "b"), ("b", "c", "d")]
        self.judged(True, rooms, ("order", [(1, 0), (0, 2)]))
        self.judged(False, rooms, ("order", [(0, 2), (1, 2)]))

    def test_told_orders_that_are_spoilt(self):
        for rooms in HANGING:
            row = paper(rooms)[1]
            for at, (place, other) in enumerate(row):
                self.judged(False, rooms, ("order", row[:at] + row[at + 1:]))
                self.judged(False, rooms, ("order", row[:at] + [row[at]] + row[at:]))
                for pair in ((place, place), (len(rooms), other), (place, len(rooms)), (-1, other), (place, -1)):
                    self.judged(False, rooms, ("order", row[:at] + [pair] + row[at + 1:]))
                for pair in itertools.product(range(len(rooms)), repeat=2):
                    changed = row[:at] + [pair] + row[at + 1:]
                    self.judged(own_order(rooms, changed), rooms, ("order", changed))
            for at, to in itertools.combinations(range(len(row)), 2):
                changed = list(row)
                changed[at], changed[to] = row[to], row[at]
                self.judged(own_order(rooms, changed), rooms, ("order", changed))

    def test_rooms_that_do_not_hang_have_none(self):
        for rooms in KNOTTED:
            self.judged(False, rooms, ("order", []))
            self.judged(False, rooms, ("order", [(place, place + 1) for place in range(len(rooms) - 1)]))
        triangle = KNOTTED[0]
        for row in itertools.product(itertools.permutations(range(3), 2), repeat=2):
            self.judged(False, triangle, ("order", list(row)))


class GoodKnot(PaperCase):
    def test_a_ring_begun_anywhere_and_gone_either_way(self):
        for many in (4, 5, 6):
            names = list(SIX[:many])
            rooms = ring_rooms(names)
            for at in range(many):
                row = names[at:] + names[:at]
                self.judged(True, rooms, ("ring", row))
                self.judged(True, rooms, ("ring", row[::-1]))
                self.judged(False, rooms, ("ring", row[:-1]))
                self.judged(False, rooms, ("ring", row + row[:1]))
                self.judged(False, rooms, ("ring", row[:-1] + row[:1]))
                self.judged(False, rooms, ("ring", [row[1], row[0]] + row[2:]))
                self.judged(False, rooms, ("ring", row[:-1] + ["x"]))
                self.judged(False, rooms, ("ring", row + ["x"]))
                self.judged(False, rooms, ("ring", row + row))
                self.judged(False, rooms[:at] + rooms[at + 1:], ("ring", row))

    def test_a_ring_of_three_or_less_is_none(self):
        triangle = [("a", "b"), ("b", "c"), ("a", "c")]
        for row in itertools.permutations(SIX[:3]):
            self.judged(False, triangle, ("ring", list(row)))
        for row in ([], ["a"], ["a", "b"], ["a", "a"], ["a", "b", "a", "b"], ["a", "b", "a", "c"]):
            self.judged(False, triangle, ("ring", row))
            self.judged(False, [], ("ring", row))

    def test_two_that_are_no_neighbours_stand_together(self):
        for many in (4, 5, 6):
            names = list(SIX[:many])
            for pair in itertools.combinations(names, 2):
                rooms = ring_rooms(names) + [pair]
                self.judged(pair in ring_rooms(names), rooms, ("ring", names))

    def test_neighbours_need_not_be_alone_in_their_room(self):
        rooms = [("a", "b", "x"), ("b", "c", "x"), ("c", "d"), ("a", "d", "y"), ("y",), ()]
        self.judged(True, rooms, ("ring", ["a", "b", "c", "d"]))
        self.judged(True, rooms, ("ring", ["a", "x", "c", "d"]))
        self.judged(False, rooms, ("ring", ["a", "y", "c", "d"]))
        self.judged(False, rooms + [("c", "x", "y")], ("ring", ["a", "y", "c", "x"]))
        self.judged(True, rooms + [("c", "y")], ("ring", ["a", "y", "c", "x"]))

    def test_each_row_of_questions_as_a_ring(self):
        for rooms in KNOTTED + HANGING:
            for many in (3, 4, 5):
                for row in itertools.permutations(SIX[:5], many):
                    self.assertIs(good_paper(rooms, ("ring", list(row))), own_ring(rooms, list(row)), (rooms, row))

    def test_an_allbut_row(self):
        for many in (3, 4, 5, 6):
            names = list(SIX[:many])
            rooms = allbut_rooms(names)
            self.judged(True, rooms, ("allbut", names))
            self.judged(True, rooms + [(), ("a",), ("b", "z")], ("allbut", names))
            self.judged(True, [room + ("z",) for room in rooms], ("allbut", names))
            self.judged(False, rooms + [tuple(names)], ("allbut", names))
            self.judged(False, rooms + [tuple(names) + ("z",)], ("allbut", names))
            for at in range(many):
                self.judged(False, rooms[:at] + rooms[at + 1:], ("allbut", names))
                self.judged(False, rooms, ("allbut", names[:at] + names[at + 1:]))
                self.judged(False, rooms, ("allbut", names[:at + 1] + names[at:]))
                self.judged(False, rooms, ("allbut", names[:at] + ["z"] + names[at + 1:]))
            self.judged(False, rooms, ("allbut", names + ["z"]))

    def test_an_allbut_row_that_does_not_rise(self):
        for many in (3, 4):
            for row in itertools.permutations(SIX[:many]):
                self.judged(row == SIX[:many], allbut_rooms(SIX[:many]), ("allbut", list(row)))
        self.judged(False, allbut_rooms(SIX), ("allbut", ["a", "b", "c", "d", "f", "e"]))
        self.judged(False, allbut_rooms(SIX), ("allbut", ["b", "a", "c", "d", "e", "f"]))

    def test_an_allbut_row_of_two_or_less_is_none(self):
        for rooms in ([], [()], [("a",), ("b",)], [("a", "b"), ("b", "c"), ("a", "c")]):
            for row in ([], ["a"], ["a", "b"], ["x"], ["x", "y"], ["a", "a"], ["a", "x"]):
                self.judged(False, rooms, ("allbut", row))

    def test_questions_that_no_room_has(self):
        self.judged(False, [], ("ring", ["a", "b", "c", "d"]))
        self.judged(False, [()], ("allbut", ["a", "b", "c"]))
        self.judged(False, ring_rooms("abcd"), ("ring", ["w", "x", "y", "z"]))
        self.judged(False, allbut_rooms("abc"), ("allbut", ["x", "y", "z"]))

    def test_one_kind_is_not_the_other(self):
        self.judged(False, allbut_rooms("abcd"), ("ring", list("abcd")))
        self.judged(False, ring_rooms("abcd"), ("allbut", list("abcd")))
        self.judged(True, ring_rooms("abc"), ("allbut", list("abc")))

    def test_each_rising_row_of_questions_as_an_allbut_row(self):
        for rooms in KNOTTED + HANGING:
            for row in parts(SIX):
                self.judged(own_allbut(rooms, list(row)), rooms, ("allbut", list(row)))

    def test_rooms_that_hang_have_no_knot(self):
        for rooms in HANGING:
            for row in parts(SIX):
                self.judged(False, rooms, ("ring", list(row)))
                self.judged(False, rooms, ("allbut", list(row)))


if __name__ == "__main__":
    unittest.main()
