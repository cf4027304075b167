"""The whole count behind tallies, or what stands in its way: promises [1] and [10]."""

import copy
import itertools
import random
import unittest

from roomtally.hanging import good_paper, paper
from roomtally.spoil import borne
from roomtally.tally import plus
from roomtally.whole import is_whole, whole

LARGE = 10 ** 12
SIX = ("a", "b", "c", "d", "e", "f")

KNOTTED = (
    [("a", "b"), ("b", "c"), ("a", "c")],
    [("a", "b"), ("b", "c"), ("a", "c"), (), ("a",), ("a", "b"), ("c", "d"), ("d", "e")],
    [("a", "b", "d"), ("b", "c", "e"), ("a", "c", "f")],
    [("a", "b"), ("b", "c"), ("c", "d"), ("a", "d")],
    [("a", "b", "e"), ("b", "c"), ("c", "d", "f"), ("a", "d"), ("e",), ("f",), (), ("a", "b")],
    [("a", "b"), ("b", "c"), ("c", "d"), ("d", "e"), ("a", "e")],
    [("a", "d"), ("b", "d"), ("b", "e"), ("c", "e"), ("c", "f"), ("a", "f"), ("a",), ()],
    list(itertools.combinations(SIX[:4], 3)),
    list(itertools.combinations(SIX[:5], 4)),
    list(itertools.combinations(SIX, 5)),
)


def tally_of(counts):
    return [(row, counts[row]) for row in sorted(counts) if counts[row]]


def own_share(room, rows, part):
    """The share of a tally, reckoned here."""
    counts = {}
    for row, count in rows:
        answers = dict(zip(room, row))
        key = tuple(answers[name] for name in part)
        counts[key] = counts.get(key, 0) + count
    return tally_of(counts)


def own_bar(room, rows, other_room, other_rows):
    part = tuple(sorted(set(room) & set(other_room)))
    one, other = dict(own_share(room, rows, part)), dict(own_share(other_room, other_rows, part))
    return min((row for row in {**one, **other} if one.get(row) != other.get(row)), default=None)


def own_first_bar(rooms, tallies):
    """The bar of the least two places, or None."""
    for place, other in itertools.combinations(range(len(rooms)), 2):
        row = own_bar(rooms[place], tallies[place], rooms[other], tallies[other])
        if row is not None:
            return ("bar", place, other, row)
    return None


def own_hangs(rooms):
    """True where any order at all takes all rooms but one off."""
    if len(rooms) <= 1:
        return True
    for at, room in enumerate(rooms):
        rest = rooms[:at] + rooms[at + 1:]
        met = {name for name in room if any(name in other for other in rest)}
        if any(met <= set(other) for other in rest):
            # Whichever ear goes first, what is left hangs just where all did.
            return own_hangs(rest)
    return False


def all_names(rooms):
    return tuple(sorted({name for room in rooms for name in room}))


def some_count(chance, many_rows, answers=3, most=5):
    """Some papers that answer all six questions."""
    papers = {}
    for step in range(many_rows):
        papers[tuple(chance.randrange(answers) for name in SIX)] = chance.randrange(1, most + 1)
    return tally_of(papers)


def shares(rooms, rows):
    return [own_share(SIX, rows, room) for room in rooms]


def hanging_rooms(chance, many):
    """So many rooms that hang, in any order: each has some questions of an earlier one, and new ones."""
    new = list(SIX)
    chance.shuffle(new)
    rooms = []
    for place in range(many):
        names = [name for name in chance.choice(rooms) if chance.random() < 0.6] if rooms else []
        for step in range(min(len(new), chance.randrange(3))):
            names.append(new.pop())
        rooms.append(tuple(sorted(names)))
    chance.shuffle(rooms)
    return rooms


class IsWhole(unittest.TestCase):
    def check(self, wanted, rooms, tallies, rows):
        handed = (rooms, tallies, rows)
        kept = copy.deepcopy(handed)
        with self.subTest(handed=kept):
            self.assertIs(is_whole(*handed), wanted)
            self.assertEqual(handed, kept)

    def test_no_rooms(self):
        for rows in ([], [((), 1)], [((), LARGE)]):
            self.check(True, [], [], rows)

    def test_one_room(self):
        rows = [((0, 0), 3), ((0, 9), 1)]
        self.check(True, [("a", "b")], [list(rows)], rows)
        self.check(False, [("a", "b")], [rows[:1]], rows)
        self.check(False, [("a", "b")], [list(rows)], rows[:1])
        self.check(True, [()], [[((), 4)]], [((), 4)])
        self.check(False, [()], [[((), 4)]], [((), 5)])
        self.check(False, [()], [[((), 4)]], [])
        self.check(True, [()], [[]], [])
        self.check(False, [()], [[]], [((), 1)])

    def test_one_of_several_whole_counts(self):
        rooms = [("a",), ("b",)]
        tallies = [[((0,), 1), ((1,), 1)], [((0,), 1), ((1,), 1)]]
        self.check(True, rooms, tallies, [((0, 0), 1), ((1, 1), 1)])
        self.check(True, rooms, tallies, [((0, 1), 1), ((1, 0), 1)])
        self.check(False, rooms, tallies, [((0, 0), 1), ((0, 1), 1)])
        self.check(False, rooms, tallies, [((0, 0), 1), ((1, 1), 2)])
        self.check(False, rooms, tallies, [((0, 0), 1)])
        self.check(False, rooms, tallies, [])

    def test_each_room_is_asked(self):
        rooms = [("a", "b"), ("b", "c"), ("a",), ("a", "c"), ()]
        rows = [((0, 1, 2), 4), ((3, 1, 2), 1), ((3, 4, 5), LARGE)]
        tallies = [own_share(SIX[:3], rows, room) for room in rooms]
        self.check(True, rooms, tallies, rows)
        for at, room in enumerate(rooms):
            for changed in ([], [(row, count + 1) for row, count in tallies[at]], tallies[at][1:]):
                self.check(False, rooms, tallies[:at] + [changed] + tallies[at + 1:], rows)

    def test_a_count_and_its_changes(self):
        chance = random.Random(10)
        for turn in range(120):
            rooms = [tuple(name for name in SIX if chance.random() < 0.5) for place in range(1 + turn % 8)]
            questions = all_names(rooms)
            rows = own_share(SIX, some_count(chance, 1 + turn % 12, most=LARGE), questions)
            tallies = [own_share(questions, rows, room) for room in rooms]
            self.check(True, rooms, tallies, rows)
            at = chance.randrange(len(rows))
            row, count = rows[at]
            self.check(False, rooms, tallies, rows[:at] + [(row, count + 1)] + rows[at + 1:])
            self.check(False, rooms, tallies, rows[:at] + rows[at + 1:])
            if questions:
                # Each question is in some room, so a row that is moved is seen there.
                spot = chance.randrange(len(questions))
                moved = row[:spot] + ((row[spot] + 5) % 10,) + row[spot + 1:]
                self.check(False, rooms, tallies, tally_of({**dict(rows[:at] + rows[at + 1:]), moved: count}))
            place = chance.randrange(len(rooms))
            more = tally_of({**dict(tallies[place]), (9,) * len(rooms[place]): 7})
            self.check(False, rooms, tallies[:place] + [more] + tallies[place + 1:], rows)


class Whole(unittest.TestCase):
    def told(self, rooms, tallies):
        """The answer is as [10] tells; what was handed in stays, and neither hangs on the other."""
        handed = (list(rooms), copy.deepcopy(tallies))
        kept = copy.deepcopy(handed)
        with self.subTest(rooms=rooms, tallies=tallies):
            found = whole(*handed)
            self.assertEqual(handed, kept)
            self.assertIsInstance(found, tuple)
            self.keeps(rooms, tallies, found)
            wanted = copy.deepcopy(found)
            if found[0] == "count":
                found[2].append("told")
            elif found[0] != "bar":
                found[1].append("told")
            self.assertEqual(handed, kept)
            self.assertEqual(whole(*handed), wanted)
            found = whole(*handed)
            for rows in handed[1]:
                rows.clear()
            handed[0].clear()
            handed[1].clear()
            self.assertEqual(found, wanted)
        return wanted

    def keeps(self, rooms, tallies, found):
        first = own_first_bar(rooms, tallies)
        if first is not None:
            self.assertEqual(found, first)
            self.assertIsInstance(found[3], tuple)
        elif own_hangs(rooms):
            self.is_count(rooms, tallies, found)
        else:
            self.assertIn(found[0], ("ring", "allbut"))
            self.assertTrue(good_paper(rooms, found))

    def is_count(self, rooms, tallies, found):
        word, room, rows = found
        self.assertEqual((word, room), ("count", all_names(rooms)))
        self.assertIsInstance(room, tuple)
        self.assertIsInstance(rows, list)
        for pair in rows:
            self.assertIsInstance(pair, tuple)
            self.assertIsInstance(pair[0], tuple)
            self.assertEqual(len(pair[0]), len(room))
            self.assertTrue(all(0 <= answer <= 9 for answer in pair[0]))
            self.assertGreaterEqual(pair[1], 1)
        order = [row for row, count in rows]
        self.assertEqual(order, sorted(set(order)))
        for part, tally in zip(rooms, tallies):
            self.assertEqual(own_share(room, rows, part), tally)
        self.assertLessEqual(len(rows), sum(len(tally) for tally in tallies))
        self.assertTrue(is_whole(rooms, tallies, rows))

    def test_no_rooms(self):
        self.assertEqual(self.told([], []), ("count", (), []))

    def test_one_room(self):
        for room, rows in (((), []), ((), [((), 4)]), (("b",), []), (("b",), [((3,), LARGE)]),
                           (SIX, [((0,) * 6, 1), ((9,) * 6, 2)])):
            self.assertEqual(self.told([room], [rows]), ("count", room, rows))

    def test_two_rooms(self):
        self.told([("a", "b"), ("b", "c")], [[((0, 1), 2), ((3, 1), 1)], [((1, 7), 1), ((1, 8), 2)]])
        self.told([("b", "c"), ("a", "b")], [[((1, 7), 1), ((1, 8), 2)], [((0, 1), 2), ((3, 1), 1)]])
        self.told([("a",), ("b",)], [[((0,), 5), ((1,), 2)], [((0,), 1), ((1,), 3), ((2,), 3)]])
        self.told([("a",), ()], [[((0,), 5), ((1,), 2)], [((), 7)]])
        self.told([(), ()], [[((), 7)], [((), 7)]])
        self.told([("a", "b"), ("a", "b")], [[((0, 0), 1)], [((0, 0), 1)]])

    def test_two_rooms_that_disagree(self):
        found = self.told([("a", "b"), ("b", "c")], [[((0, 1), 2)], [((1, 7), 1)]])
        self.assertEqual(found, ("bar", 0, 1, (1,)))
        self.assertEqual(self.told([("a",), ("b",)], [[((0,), 2)], []]), ("bar", 0, 1, ()))
        self.assertEqual(self.told([(), ()], [[((), 2)], [((), 3)]]), ("bar", 0, 1, ()))

    def test_the_least_place_then_the_least_other(self):
        alike, other = [((1,), 1)], [((2,), 1)]
        rooms = [("q",)] * 8
        for places in itertools.chain(itertools.combinations(range(8), 1), itertools.combinations(range(8), 2)):
            tallies = [list(other if place in places else alike) for place in range(8)]
            apart = [(low, high) for low, high in itertools.combinations(range(8), 2) if tallies[low] != tallies[high]]
            self.assertEqual(self.told(rooms, tallies), ("bar", *min(apart), (1,)))

    def test_a_bar_goes_ahead_of_a_knot(self):
        rooms = [("a", "b"), ("b", "c"), ("a", "c")]
        tallies = [[((0, 1), 1)], [((1, 5), 1)], [((4, 5), 1)]]
        self.assertEqual(self.told(rooms, tallies), ("bar", 0, 2, (0,)))
        tallies = [[((0, 1), 1)], [((1, 5), 1)], [((0, 6), 1)]]
        self.assertEqual(self.told(rooms, tallies), ("bar", 1, 2, (5,)))
        tallies = [[((0, 1), 1)], [((1, 5), 1)], [((0, 5), 1)]]
        self.assertEqual(self.told(rooms, tallies), ("allbut", ["a", "b", "c"]))

    def test_empty_tallies(self):
        self.assertEqual(self.told([("a", "b"), ("b", "c"), ("d",), ()], [[], [], [], []]),
                         ("count", ("a", "b", "c", "d"), []))
        self.told([("a", "b"), ("b", "c"), ("a", "c")], [[], [], []])

    def test_eight_rooms_alike(self):
        rows = [((0, 4), LARGE), ((3, 4), 1), ((9, 0), 2)]
        found = self.told([("a", "b")] * 8, [list(rows) for place in range(8)])
        self.assertEqual(found, ("count", ("a", "b"), rows))
        self.told([()] * 8, [[((), LARGE)] for place in range(8)])

    def test_a_path_whose_middle_goes_last(self):
        rooms = [("c", "d"), ("a", "b"), ("e", "f"), ("b", "c"), ("d", "e")]
        chance = random.Random(3)
        rows = some_count(chance, 60, answers=4, most=LARGE)
        for order in itertools.permutations(rooms):
            self.told(list(order), shares(order, rows))

    def test_rooms_that_hang(self):
        chance = random.Random(1)
        for turn in range(250):
            rooms = hanging_rooms(chance, turn % 9)
            self.assertTrue(own_hangs(rooms), rooms)
            rows = some_count(chance, chance.randrange(30), answers=chance.choice((2, 3, 10)), most=LARGE)
            self.assertEqual(self.told(rooms, shares(rooms, rows))[0], "count")

    def test_tallies_of_up_to_eighty_rows(self):
        chance = random.Random(2)
        longest = 0
        for turn in range(40):
            rooms = hanging_rooms(chance, 1 + turn % 8)
            tallies = shares(rooms, some_count(chance, 80, answers=10, most=LARGE))
            longest = max(longest, *[len(rows) for rows in tallies])
            self.assertEqual(self.told(rooms, tallies)[0], "count")
        self.assertEqual(longest, 80)

    def test_fewer_rows_than_the_count_that_was_shared(self):
        chance = random.Random(7)
        rows = some_count(chance, 400, answers=3, most=LARGE)
        for turn in range(30):
            rooms = [room for room in hanging_rooms(chance, 8) if len(room) < 4]
            self.told(rooms, shares(rooms, rows))

    def test_knotted_rooms(self):
        chance = random.Random(4)
        for rooms in KNOTTED:
            for many in (0, 1, 5, 40):
                found = self.told(rooms, shares(rooms, some_count(chance, many, most=LARGE)))
                self.assertIn(found[0], ("ring", "allbut"))

    def test_the_tallies_that_a_knot_bears(self):
        for rooms in KNOTTED:
            tallies = borne(rooms, paper(rooms))
            found = self.told(rooms, tallies)
            self.assertIn(found[0], ("ring", "allbut"))
            self.assertTrue(any(tallies))

    def test_one_or_two_tallies_changed(self):
        chance = random.Random(5)
        words = []
        for turn in range(300):
            rooms = hanging_rooms(chance, 2 + turn % 7) if turn % 3 else list(chance.choice(KNOTTED))
            tallies = shares(rooms, some_count(chance, chance.randrange(1, 20), most=LARGE))
            for place in chance.sample(range(len(rooms)), 1 + turn % 2):
                row = tuple(chance.randrange(3) for name in rooms[place])
                counts = dict(tallies[place])
                counts[row] = max(0, counts.get(row, 0) + chance.choice((-1, 1)))
                tallies[place] = tally_of(counts)
            words.append(self.told(rooms, tallies)[0])
        self.assertGreater(words.count("bar"), 200)

    def test_any_rooms_and_tallies(self):
        chance = random.Random(6)
        words = []
        for turn in range(400):
            rooms = [tuple(name for name in SIX[:2 + turn % 5] if chance.random() < 0.5) for place in range(turn % 9)]
            rows = some_count(chance, chance.randrange(8))
            twisted = some_count(chance, 3) if turn % 4 == 0 else rows
            tallies = [own_share(SIX, chance.choice((rows, twisted)), room) for room in rooms]
            words.append(self.told(rooms, tallies)[0])
        for word in ("bar", "count", "allbut"):
            self.assertGreater(words.count(word), 20)

    def test_more_rooms_and_questions_than_the_bounds(self):
        names = SIX + ("g", "h")
        rooms = [tuple(sorted((names[at - 1], names[at]))) for at in range(1, 8)] + [("a",), (), ("h",), ("c", "d")]
        rows = [((0, 1, 2, 3, 4, 5, 6, 7), LARGE ** 3), ((9,) * 8, 1)]
        self.told(rooms, [own_share(names, rows, room) for room in rooms])


class Sums(unittest.TestCase):
    def test_counts_added_are_a_whole_count_of_the_tallies_added(self):
        chance = random.Random(8)
        for turn in range(120):
            rooms = hanging_rooms(chance, turn % 9)
            one, other = (shares(rooms, some_count(chance, chance.randrange(15), most=LARGE)) for side in range(2))
            both = [plus(rows, other_rows) for rows, other_rows in zip(one, other)]
            counts = [whole(rooms, tallies) for tallies in (one, other)]
            with self.subTest(rooms=rooms, one=one, other=other):
                self.assertEqual([found[0] for found in counts], ["count", "count"])
                added = plus(counts[0][2], counts[1][2])
                self.assertTrue(is_whole(rooms, both, added))
                self.assertEqual(whole(rooms, both)[0], "count")
                self.assertEqual([own_share(all_names(rooms), added, room) for room in rooms], both)


if __name__ == "__main__":
    unittest.main()
