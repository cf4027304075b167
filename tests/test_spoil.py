"""The tallies that a knot bears: promises [1] and [9]."""

import copy
import itertools
import random
import unittest

from roomtally.hanging import good_paper, paper
from roomtally.spoil import borne

SIX = ("a", "b", "c", "d", "e", "f")


def ring_rooms(row):
    """The rooms of each two neighbours of a ring."""
    return [tuple(sorted((row[at], row[at - 1]))) for at in range(len(row))]


def allbut_rooms(names):
    return list(itertools.combinations(names, len(names) - 1))


def own_share(room, rows, part):
    """The share of a tally as a dict, reckoned here."""
    counts = {}
    for row, count in rows:
        answers = dict(zip(room, row))
        key = tuple(answers[name] for name in part)
        counts[key] = counts.get(key, 0) + count
    return counts


def rows_in_each(rooms, tallies):
    """All rows of answers to all questions whose share is in each tally, built up room by room."""
    known, found = (), [()]
    for room, rows in zip(rooms, tallies):
        both = [name for name in room if name in known]
        new = [name for name in room if name not in known]
        endings = {}
        for row, count in rows:
            answers = dict(zip(room, row))
            key = tuple(answers[name] for name in both)
            endings.setdefault(key, []).append(tuple(answers[name] for name in new))
        grown = []
        for row in found:
            answers = dict(zip(known, row))
            grown += [row + more for more in endings.get(tuple(answers[name] for name in both), [])]
        known, found = known + tuple(new), grown
    return found


class OwnReckoning(unittest.TestCase):
    def test_rows_in_each(self):
        rooms = [("a", "b"), ("b", "c"), ("a", "c")]
        alike = [((0, 0), 1), ((1, 1), 1)]
        other = [((0, 1), 1), ((1, 0), 1)]
        self.assertEqual(rows_in_each(rooms, [alike, alike, alike]), [(0, 0, 0), (1, 1, 1)])
        self.assertEqual(rows_in_each(rooms, [alike, other, other]), [(0, 0, 1), (1, 1, 0)])
        self.assertEqual(rows_in_each(rooms, [alike, alike, other]), [])
        self.assertEqual(rows_in_each([("a",), (), ("b",)], [[((4,), 1)], [((), 1)], [((5,), 1)]]), [(4, 5)])
        self.assertEqual(rows_in_each([("a",), ()], [[((4,), 1)], []]), [])


class Borne(unittest.TestCase):
    def bears(self, rooms, told):
        """The tallies are all that [9] asks; what was handed in stays, and neither hangs on the other."""
        handed = copy.deepcopy((rooms, told))
        kept = copy.deepcopy(handed)
        with self.subTest(rooms=rooms, told=told):
            self.assertTrue(good_paper(rooms, told))
            tallies = borne(*handed)
            self.assertEqual(handed, kept)
            self.assertIsInstance(tallies, list)
            self.assertEqual(len(tallies), len(rooms))
            for room, rows in zip(rooms, tallies):
                self.is_tally_of(room, rows)
            self.assertTrue(any(tallies))
            self.agree(rooms, tallies)
            self.assertEqual(rows_in_each(rooms, tallies), [])
            self.assertEqual(len({id(rows) for rows in tallies}), len(rooms))
            self.hangs_on_nothing(handed, kept, tallies)

    def is_tally_of(self, room, rows):
        self.assertIsInstance(rows, list)
        self.assertLessEqual(len(rows), 625)
        for pair in rows:
            self.assertIsInstance(pair, tuple)
            row, count = pair
            self.assertIsInstance(row, tuple)
            self.assertEqual(len(row), len(room))
            self.assertTrue(all(type(answer) is int and 0 <= answer <= 9 for answer in row), row)
            self.assertTrue(type(count) is int and count >= 1, count)
        order = [row for row, count in rows]
        self.assertEqual(order, sorted(set(order)))

    def agree(self, rooms, tallies):
        for (room, rows), (other, other_rows) in itertools.combinations(list(zip(rooms, tallies)), 2):
            part = [name for name in room if name in other]
            self.assertEqual(own_share(room, rows, part), own_share(other, other_rows, part), (room, other))

    def hangs_on_nothing(self, handed, kept, tallies):
        """Changing what was told changes neither what was handed in nor what is told next."""
        wanted = copy.deepcopy(tallies)
        for at, rows in enumerate(tallies):
            rows.append("told")
            self.assertEqual(tallies[at + 1:], wanted[at + 1:])
        tallies.clear()
        self.assertEqual(handed, kept)
        self.assertEqual(borne(*handed), wanted)
        found = borne(*handed)
        handed[1][1].clear()
        handed[0].clear()
        self.assertEqual(found, wanted)

    def bears_each_way(self, rooms, names):
        """The ring is begun anywhere and gone either way."""
        for at in range(len(names)):
            row = list(names[at:] + names[:at])
            self.bears(rooms, ("ring", row))
            self.bears(rooms, ("ring", row[::-1]))

    def test_rings(self):
        for many in (4, 5, 6):
            self.bears_each_way(ring_rooms(SIX[:many]), SIX[:many])
            self.bears_each_way(ring_rooms(SIX[:many])[::-1], SIX[:many])

    def test_rings_whose_questions_do_not_rise(self):
        for names in itertools.permutations(SIX[:4]):
            self.bears_each_way(ring_rooms(names), names)
        self.bears_each_way(ring_rooms("daebc"), tuple("daebc"))
        self.bears_each_way(ring_rooms("fbdace"), tuple("fbdace"))
        names = ("dog", "a", "zebra", "ape")
        self.bears_each_way(ring_rooms(names), names)

    def test_rings_with_questions_more(self):
        rooms = [("a", "b", "e"), ("b", "c", "e", "f"), ("c", "d"), ("a", "d", "f")]
        self.bears_each_way(rooms, ("a", "b", "c", "d"))
        rooms = [("b", "c", "d"), ("a", "d", "e"), ("a", "e", "f"), ("b", "f"), ("a",), ("c",)]
        self.bears_each_way(rooms, ("b", "d", "e", "f"))
        rooms = [("a", "b", "c"), ("c", "d"), ("d", "e", "f"), ("a", "f"), ("a", "b"), ("e",)]
        self.bears_each_way(rooms, ("a", "c", "d", "f"))

    def test_rings_with_parts_of_the_rooms(self):
        for many in (4, 5, 6):
            rooms = ring_rooms(SIX[:many])
            for more in ([(), ()], [("a",), ("b",)], [rooms[0], rooms[2]], [("c",), rooms[0]]):
                self.bears_each_way(rooms + more, SIX[:many])
                self.bears_each_way(more + rooms, SIX[:many])

    def test_rings_with_rooms_beside_them(self):
        rooms = ring_rooms("abcd") + [("e",), ("e", "f"), ("d", "e"), ()]
        self.bears_each_way(rooms, ("a", "b", "c", "d"))
        self.bears_each_way(rooms[::-1], ("a", "b", "c", "d"))

    def test_allbut_knots(self):
        for many in (3, 4, 5, 6):
            for names in itertools.combinations(SIX, many):
                self.bears(allbut_rooms(names), ("allbut", list(names)))
            self.bears(allbut_rooms(SIX[:many])[::-1], ("allbut", list(SIX[:many])))
        names = ("ape", "cat", "dog", "zebra")
        self.bears(allbut_rooms(names), ("allbut", list(names)))

    def test_allbut_knots_with_questions_more(self):
        self.bears([("a", "b", "d"), ("b", "c", "e"), ("a", "c", "f")], ("allbut", ["a", "b", "c"]))
        self.bears([("b", "d"), ("a", "d", "f"), ("a", "b", "c"), ("c", "e")], ("allbut", ["a", "b", "d"]))
        rooms = [("b", "c", "d"), ("a", "b", "c", "f"), ("b", "d", "f"), ("a", "c", "d", "f"), ("c", "d", "e", "f")]
        self.bears(rooms, ("allbut", ["b", "c", "d", "f"]))
        rooms = [room + ("f",) for room in allbut_rooms(SIX[:5])]
        self.bears(rooms, ("allbut", list(SIX[:5])))
        self.bears(rooms[:2] + allbut_rooms(SIX[:5])[2:], ("allbut", list(SIX[:5])))

    def test_allbut_knots_with_parts_of_the_rooms(self):
        for many in (3, 4, 5, 6):
            names = SIX[:many]
            rooms = allbut_rooms(names)
            for more in ([(), ("a",)], [rooms[0], rooms[-1]], [names[:-2], names[2:]], [names[1:-1], (names[-1],)]):
                self.bears(rooms + more, ("allbut", list(names)))
                self.bears(more + rooms, ("allbut", list(names)))

    def test_allbut_knots_with_rooms_beside_them(self):
        rooms = allbut_rooms("abc") + [("d",), ("d", "e"), ("c", "f"), ("f",)]
        self.bears(rooms, ("allbut", ["a", "b", "c"]))

    def test_more_questions_and_rooms_than_the_bounds(self):
        names = SIX + ("g",)
        self.bears_each_way(ring_rooms(names) + [(), ("a",), ("b", "h")], names)
        self.bears(allbut_rooms(names) + [("a", "b"), ("g", "h")], ("allbut", list(names)))

    def test_the_knots_that_papers_tell(self):
        chance = random.Random(9)
        words = []
        for turn in range(400):
            most = 2 + turn % 4
            rooms = [tuple(sorted(chance.sample(SIX, chance.randrange(2, most + 1)))) for place in range(3 + turn % 6)]
            told = paper(rooms)
            words.append(told[0])
            if told[0] != "order":
                self.bears(rooms, told)
        self.assertGreater(words.count("ring"), 5)
        self.assertGreater(words.count("allbut"), 50)


if __name__ == "__main__":
    unittest.main()
