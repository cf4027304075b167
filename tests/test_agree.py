"""Two rooms that agree or disagree: promises [1] and [5]."""

import copy
import itertools
import random
import unittest

from roomtally.agree import bar, bars

LARGE = 10 ** 40
SIX = ("a", "b", "c", "d", "e", "f")


def tally_of(counts):
    return [(row, counts[row]) for row in sorted(counts) if counts[row]]


def own_share(room, rows, part):
    """The share of a tally, reckoned here."""
    counts = {}
    for row, count in rows:
        answers = dict(zip(room, row))
        key = tuple(answers[name] for name in part)
        counts[key] = counts.get(key, 0) + count
    return counts


def own_bar(room, rows, other_room, other_rows):
    """The bar, reckoned here by walking all rows of the shared questions that could differ."""
    part = tuple(sorted(set(room) & set(other_room)))
    one, other = own_share(room, rows, part), own_share(other_room, other_rows, part)
    for row in itertools.product(range(10), repeat=len(part)):
        if one.get(row, 0) != other.get(row, 0):
            return row
    return None


def whole_of(chance, many_rows, answers=3):
    """Some papers that answer all six questions."""
    papers = {}
    for turn in range(many_rows):
        papers[tuple(chance.randrange(answers) for name in SIX)] = chance.randrange(1, 5)
    return tally_of(papers)


def some_room(chance):
    return tuple(name for name in SIX if chance.random() < 0.4)


class Bar(unittest.TestCase):
    def told(self, wanted, room, rows, other_room, other_rows):
        """The bar is as wanted, both ways round, and the tallies stay as they were."""
        handed = (room, rows, other_room, other_rows)
        kept = copy.deepcopy(handed)
        with self.subTest(handed=handed):
            for found in (bar(*handed), bar(other_room, other_rows, room, rows)):
                self.assertEqual(found, wanted)
                self.assertIsInstance(found, type(wanted))
            self.assertEqual(handed, kept)
            self.assertEqual(own_bar(*handed), wanted)

    def test_rooms_that_share_none(self):
        one = [((0, 0), 2), ((1, 9), 3)]
        self.told(None, ("a", "b"), one, ("c",), [((4,), 5)])
        self.told(None, ("a", "b"), one, ("c", "d"), [((0, 0), 1), ((0, 1), 4)])
        self.told((), ("a", "b"), one, ("c",), [((4,), 6)])
        self.told((), ("a", "b"), one, ("c",), [((4,), 4)])
        self.told((), ("a", "b"), one, ("c",), [])
        self.told((), ("b",), [((0,), LARGE)], ("a",), [((0,), LARGE + 1)])

    def test_rooms_that_share_some(self):
        one = [((0, 1), 2), ((0, 2), 1), ((3, 1), 4)]
        self.told(None, ("a", "b"), one, ("b", "c"), [((1, 0), 1), ((1, 8), 5), ((2, 2), 1)])
        self.told((1,), ("a", "b"), one, ("b", "c"), [((1, 0), 1), ((1, 8), 4), ((2, 2), 1)])
        self.told((2,), ("a", "b"), one, ("b", "c"), [((1, 0), 1), ((1, 8), 5), ((2, 2), 2)])
        self.told((2,), ("a", "b"), one, ("b", "c"), [((1, 0), 6)])
        self.told((0,), ("a", "b"), one, ("b", "c"), [((0, 0), 1), ((1, 0), 6), ((2, 2), 1)])
        self.told((9,), ("a", "b"), one, ("b", "c"), [((1, 0), 6), ((2, 2), 1), ((9, 9), 1)])

    def test_the_questions_stand_at_other_places_in_both(self):
        one = [((0, 5, 7), 1), ((1, 2, 3), 1)]
        self.told(None, ("a", "c", "d"), one, ("b", "c", "d", "e"), [((9, 2, 3, 9), 1), ((9, 5, 7, 9), 1)])
        self.told((2, 3), ("a", "c", "d"), one, ("b", "c", "d", "e"), [((9, 5, 7, 9), 2)])
        self.told((2, 3), ("a", "c", "d"), one, ("c", "d"), [((5, 7), 1)])
        self.told((0, 3), ("a", "c", "d"), one, ("a", "b", "d"), [((0, 3, 3), 1), ((0, 3, 7), 1)])

    def test_alike_rooms(self):
        rows = [((0, 0), 3), ((0, 9), 1), ((2, 1), LARGE)]
        self.told(None, ("a", "b"), rows, ("a", "b"), list(rows))
        self.told(None, ("a", "b"), rows, ("a", "b"), rows)
        self.told((2, 1), ("a", "b"), rows, ("a", "b"), rows[:2] + [((2, 1), LARGE - 1)])
        self.told((0, 9), ("a", "b"), rows, ("a", "b"), [rows[0], rows[2]])
        self.told((0, 0), ("a", "b"), rows, ("a", "b"), [])
        self.told((0, 0), ("a", "b"), rows, ("a", "b"), [((0, 0), 1), ((0, 9), 3), ((2, 1), LARGE)])

    def test_one_room_within_the_other(self):
        one = [((0, 1, 2), 1), ((0, 5, 2), 2), ((3, 1, 0), 4)]
        room = ("a", "b", "c")
        self.told(None, room, one, ("a",), [((0,), 3), ((3,), 4)])
        self.told(None, room, one, ("b",), [((1,), 5), ((5,), 2)])
        self.told(None, room, one, ("a", "c"), [((0, 2), 3), ((3, 0), 4)])
        self.told((3,), room, one, ("a",), [((0,), 3), ((3,), 5)])
        self.told((5,), room, one, ("b",), [((1,), 5), ((5,), 1), ((6,), 1)])
        self.told((0, 2), room, one, ("a", "c"), [((3, 0), 4)])

    def test_the_room_of_no_questions(self):
        one = [((0, 0), 2), ((1, 9), 3)]
        self.told(None, ("a", "b"), one, (), [((), 5)])
        self.told((), ("a", "b"), one, (), [((), 4)])
        self.told((), ("a", "b"), one, (), [])
        self.told(None, (), [((), 5)], (), [((), 5)])
        self.told((), (), [((), 5)], (), [((), 6)])
        self.told((), (), [], (), [((), 1)])
        self.told(None, (), [], (), [])

    def test_empty_tallies(self):
        for room, other in itertools.product(((), ("a",), ("a", "b"), ("b", "c")), repeat=2):
            self.told(None, room, [], other, [])
        self.told((4,), ("a", "b"), [], ("b", "c"), [((4, 0), 1), ((5, 0), 1)])
        self.told((), ("a",), [], ("b", "c"), [((4, 0), 1)])

    def test_the_least_of_several(self):
        one = [((answer,), 5) for answer in range(10)]
        for low in range(10):
            for high in range(low, 10):
                for change in (-5, -1, 1):
                    counts = {(answer,): 5 for answer in range(10)}
                    counts[(high,)] -= change
                    counts[(low,)] += change
                    wanted = None if low == high else (low,)
                    self.told(wanted, ("a",), one, ("a",), tally_of(counts))
        one = [((1, 9), 1), ((2, 0), 1), ((2, 5), 1)]
        self.told((1, 8), ("a", "b"), one, ("a", "b"), [((1, 8), 1), ((2, 1), 1), ((2, 5), 1)])
        self.told((2, 0), ("a", "b"), one, ("a", "b"), [((1, 9), 1), ((2, 1), 1), ((2, 4), 1)])

    def test_in_the_total_alone(self):
        one = [((3,), 1)]
        for many in range(1, 4):
            self.told(None if many == 1 else (3,), ("a",), one, ("a",), [((3,), many)])
            self.told(None if many == 1 else (), ("a",), one, ("b",), [((3,), many)])

    def test_shares_of_one_count_agree_and_a_change_is_told(self):
        chance = random.Random(5)
        for turn in range(150):
            whole = whole_of(chance, chance.randrange(12))
            room, other = some_room(chance), some_room(chance)
            rows = tally_of(own_share(SIX, whole, room))
            others = own_share(SIX, whole, other)
            self.told(None, room, rows, other, tally_of(others))
            row = tuple(chance.randrange(4) for name in other)
            others[row] = others.get(row, 0) + 1
            answers = dict(zip(other, row))
            wanted = tuple(answers[name] for name in other if name in room)
            self.told(wanted, room, rows, other, tally_of(others))


class Bars(unittest.TestCase):
    def told(self, wanted, rooms, tallies):
        """The bars are as wanted, what was handed in stays, and neither hangs on the other."""
        kept = copy.deepcopy((rooms, tallies))
        with self.subTest(rooms=rooms, tallies=tallies):
            found = bars(rooms, tallies)
            self.assertEqual(found, wanted)
            self.assertIsInstance(found, list)
            for thing in found:
                self.assertIsInstance(thing, tuple)
                self.assertIsInstance(thing[2], tuple)
            self.assertEqual((rooms, tallies), kept)
            found.append("told")
            self.assertEqual((rooms, tallies), kept)
            again = bars(rooms, tallies)
            self.assertEqual(again, wanted)
            for rows in tallies:
                rows.clear()
            rooms.clear()
            tallies.clear()
            self.assertEqual(again, wanted)

    def test_no_room_and_one(self):
        self.told([], [], [])
        self.told([], [()], [[]])
        self.told([], [()], [[((), 4)]])
        self.told([], [("a", "b")], [[((0, 0), 1), ((0, 5), 2)]])

    def test_two_rooms(self):
        self.told([], [("a",), ("a", "b")], [[((1,), 2)], [((1, 0), 1), ((1, 1), 1)]])
        self.told([(0, 1, (1,))], [("a",), ("a", "b")], [[((1,), 3)], [((1, 0), 1), ((1, 1), 1)]])
        self.told([(0, 1, ())], [("a",), ("b",)], [[((1,), 3)], [((1,), 2)]])
        self.told([(0, 1, ())], [("b",), ("a",)], [[((1,), 3)], []])
        self.told([(0, 1, ())], [(), ()], [[((), 3)], []])

    def test_each_two_of_three(self):
        rooms = [("a", "b"), ("b", "c"), ("a", "c")]
        tallies = [[((0, 1), 1)], [((2, 3), 1)], [((4, 5), 1)]]
        self.told([(0, 1, (1,)), (0, 2, (0,)), (1, 2, (3,))], list(rooms), copy.deepcopy(tallies))
        tallies[1] = [((1, 5), 1)]
        self.told([(0, 2, (0,))], list(rooms), copy.deepcopy(tallies))
        tallies[2] = [((0, 5), 1)]
        self.told([], list(rooms), copy.deepcopy(tallies))
        tallies[0] = [((0, 1), 2)]
        self.told([(0, 1, (1,)), (0, 2, (0,))], list(rooms), copy.deepcopy(tallies))

    def test_eight_rooms_without_questions(self):
        self.told([], [()] * 8, [[((), 3)] for place in range(8)])
        tallies = [[((), 3)] for place in range(8)]
        tallies[5] = []
        wanted = [(place, 5, ()) for place in range(5)] + [(5, 6, ()), (5, 7, ())]
        self.told(wanted, [()] * 8, tallies)

    def test_eight_alike_rooms_that_all_disagree(self):
        tallies = [[((9 - place,), 1)] for place in range(8)]
        wanted = [(place, other, (9 - other,)) for place, other in itertools.combinations(range(8), 2)]
        self.assertEqual(len(wanted), 28)
        self.assertEqual(wanted, sorted(wanted))
        self.told(wanted, [("q",)] * 8, tallies)

    def test_more_rooms_than_the_bound(self):
        tallies = [[((place // 4,), 1)] for place in range(12)]
        wanted = [(place, other, (place // 4,)) for place, other in itertools.combinations(range(12), 2)
                  if place // 4 != other // 4]
        self.told(wanted, [("q",)] * 12, tallies)

    def test_all_disagreeing_pairs_of_lists_of_any_length(self):
        chance = random.Random(8)
        for turn in range(60):
            whole, twisted = whole_of(chance, 6), whole_of(chance, 6)
            rooms = [some_room(chance) for place in range(turn % 9)]
            sources = [twisted if chance.random() < 0.3 else whole for room in rooms]
            tallies = [tally_of(own_share(SIX, rows, room)) for room, rows in zip(rooms, sources)]
            wanted = []
            for place, other in itertools.combinations(range(len(rooms)), 2):
                row = own_bar(rooms[place], tallies[place], rooms[other], tallies[other])
                if row is not None:
                    wanted.append((place, other, row))
            self.told(wanted, rooms, tallies)


if __name__ == "__main__":
    unittest.main()
