"""Two tallies joined corner by corner: promises [1] and [6]."""

import copy
import itertools
import random
import unittest

from roomtally.errors import Apart
from roomtally.joinup import joined

LARGE = 10 ** 40
SIX = ("a", "b", "c", "d", "e", "f")


def tally_of(counts):
    return [(row, counts[row]) for row in sorted(counts) if counts[row]]


def own_share(room, rows, part):
    """The share of a tally, reckoned here."""
    counts = {}
    for row, count in rows:
        answers = dict(zip(room, row))
        key = tuple(answers[name] for name in part)
        counts[key] = counts.get(key, 0) + count
    return tally_of(counts)


def own_joined(room, rows, other_room, other_rows):
    """The joined tally, reckoned here paper by paper: the first paper of each with the other's, and so on."""
    both = [name for name in room if name in other_room]
    piles = []
    for names, tally in ((room, rows), (other_room, other_rows)):
        pile = {}
        for row, count in tally:
            answers = dict(zip(names, row))
            pile.setdefault(tuple(answers[name] for name in both), []).extend([answers] * count)
        piles.append(pile)
    counts = {}
    for key in piles[0]:
        for one, other in zip(piles[0][key], piles[1][key], strict=True):
            answers = {**one, **other}
            row = tuple(answers[name] for name in sorted(answers))
            counts[row] = counts.get(row, 0) + 1
    return tally_of(counts)


class Joined(unittest.TestCase):
    def told(self, wanted, room, rows, other_room, other_rows):
        """What comes is as wanted and keeps [6]; what was handed in stays, and neither hangs on the other."""
        handed = (room, rows, other_room, other_rows)
        kept = copy.deepcopy(handed)
        with self.subTest(handed=kept):
            found = joined(*handed)
            self.assertEqual(found, wanted)
            self.assertEqual(handed, kept)
            self.keeps(found, *kept)
            found.append("told")
            self.assertEqual(handed, kept)
            self.assertEqual(joined(*handed), wanted)
            found.pop()
            rows.clear()
            other_rows.clear()
            self.assertEqual(found, wanted)

    def keeps(self, found, room, rows, other_room, other_rows):
        """It is a tally of all questions, both shares come back, and there are fewer rows than both had."""
        questions = tuple(sorted(set(room) | set(other_room)))
        self.assertIsInstance(found, list)
        for pair in found:
            self.assertIsInstance(pair, tuple)
            self.assertIsInstance(pair[0], tuple)
            self.assertEqual(len(pair[0]), len(questions))
            self.assertGreaterEqual(pair[1], 1)
        order = [row for row, count in found]
        self.assertEqual(order, sorted(set(order)))
        self.assertEqual(own_share(questions, found, room), rows)
        self.assertEqual(own_share(questions, found, other_room), other_rows)
        both = [name for name in room if name in other_room]
        many = {}
        for names, tally, step in ((room, rows, 1), (other_room, other_rows, 1), (questions, found, -1)):
            for row, count in tally:
                answers = dict(zip(names, row))
                key = tuple(answers[name] for name in both)
                many[key] = many.get(key, 0) + step
        self.assertTrue(all(left >= 1 for left in many.values()), many)

    def refused(self, wanted, room, rows, other_room, other_rows):
        """It is refused with Apart and this row, both ways round, and what was handed in stays."""
        handed = (room, rows, other_room, other_rows)
        kept = copy.deepcopy(handed)
        for things in (handed, (other_room, other_rows, room, rows)):
            with self.subTest(things=things):
                with self.assertRaises(Apart) as caught:
                    joined(*things)
                self.assertIs(caught.exception.__class__, Apart)
                self.assertEqual(caught.exception.row, wanted)
                self.assertIsInstance(caught.exception.row, tuple)
                self.assertEqual(handed, kept)

    def test_counts_used_up_one_side_first(self):
        one = [((0,), 5), ((1,), 2)]
        other = [((0,), 1), ((1,), 3), ((2,), 3)]
        wanted = [((0, 0), 1), ((0, 1), 3), ((0, 2), 1), ((1, 2), 2)]
        self.told(wanted, ("a",), one, ("b",), other)
        one = [((0,), 1), ((3,), 1), ((9,), 1)]
        self.told([((0, 7), 1), ((3, 7), 1), ((9, 7), 1)], ("a",), one, ("b",), [((7,), 3)])
        self.told([((7, 0), 1), ((7, 3), 1), ((7, 9), 1)], ("a",), [((7,), 3)], ("b",),
                  [((0,), 1), ((3,), 1), ((9,), 1)])

    def test_used_up_on_both_sides_at_once(self):
        one = [((0,), 2), ((1,), 2), ((2,), 2)]
        other = [((5,), 2), ((6,), 2), ((7,), 2)]
        self.told([((0, 5), 2), ((1, 6), 2), ((2, 7), 2)], ("a",), one, ("b",), other)
        one = [((0,), 2), ((1,), 2), ((2,), 1)]
        other = [((5,), 4), ((6,), 1)]
        self.told([((0, 5), 2), ((1, 5), 2), ((2, 6), 1)], ("a",), one, ("b",), other)
        self.told([((4, 4), 9)], ("a",), [((4,), 9)], ("b",), [((4,), 9)])

    def test_the_first_room_need_not_come_first(self):
        one = [((0,), 1), ((1,), 3)]
        other = [((5,), 2), ((6,), 2)]
        self.told([((5, 0), 1), ((5, 1), 1), ((6, 1), 2)], ("b",), one, ("a",), other)
        one = [((0, 9), 1), ((3, 8), 1)]
        other = [((4,), 1), ((5,), 1)]
        self.told([((0, 4, 9), 1), ((3, 5, 8), 1)], ("a", "c"), one, ("b",), other)

    def test_rows_are_taken_rising_within_each_shared_row(self):
        one = [((0, 1), 1), ((0, 2), 4), ((3, 1), 2)]
        other = [((1, 7), 2), ((1, 8), 1), ((2, 0), 3), ((2, 9), 1)]
        wanted = [((0, 1, 7), 1), ((0, 2, 0), 3), ((0, 2, 9), 1), ((3, 1, 7), 1), ((3, 1, 8), 1)]
        self.told(wanted, ("a", "b"), one, ("b", "c"), other)
        # Rising are the rows of each room, not those of the joined one.
        one = [((0, 5), 1), ((1, 5), 1)]
        other = [((0, 5), 1), ((1, 5), 1)]
        self.told([((0, 0, 5), 1), ((1, 1, 5), 1)], ("a", "c"), one, ("b", "c"), other)

    def test_what_is_left_over_does_not_go_on_to_the_next_shared_row(self):
        one = [((0, 0), 2), ((0, 1), 1), ((1, 0), 1), ((1, 1), 2)]
        other = [((0, 0), 1), ((0, 1), 2), ((1, 0), 2), ((1, 1), 1)]
        wanted = [((0, 0, 0), 1), ((0, 0, 1), 1), ((0, 1, 1), 1), ((1, 0, 0), 1), ((1, 1, 0), 1), ((1, 1, 1), 1)]
        self.told(wanted, ("a", "b"), one, ("a", "c"), other)

    def test_large_counts(self):
        one = [((0,), LARGE), ((1,), LARGE + 1)]
        other = [((0,), 1), ((1,), 2 * LARGE - 1), ((2,), 1)]
        wanted = [((0, 0), 1), ((0, 1), LARGE - 1), ((1, 1), LARGE), ((1, 2), 1)]
        self.told(wanted, ("a",), one, ("b",), other)

    def test_rooms_that_share_all_questions(self):
        rows = [((0, 0), 3), ((0, 9), 1), ((2, 1), LARGE)]
        self.told(rows[:], ("a", "b"), list(rows), ("a", "b"), list(rows))
        same = list(rows)
        self.assertEqual(joined(("a", "b"), same, ("a", "b"), same), rows)
        self.assertEqual(same, rows)
        self.assertIsNot(joined(("a", "b"), same, ("a", "b"), same), same)

    def test_one_room_within_the_other(self):
        room, rows = ("a", "b", "c"), [((0, 1, 2), 1), ((0, 5, 2), 2), ((3, 1, 0), 4)]
        for part in (("a",), ("b",), ("a", "c"), ("b", "c"), ("a", "b", "c"), ()):
            self.told(list(rows), room, list(rows), part, own_share(room, rows, part))
            self.told(list(rows), part, own_share(room, rows, part), room, list(rows))

    def test_the_room_of_no_questions(self):
        self.told([((), 4)], (), [((), 4)], (), [((), 4)])
        self.told([((5,), 4)], (), [((), 4)], ("a",), [((5,), 4)])

    def test_empty_tallies(self):
        for room, other in itertools.product(((), ("a",), ("a", "b"), ("b", "c")), repeat=2):
            self.told([], room, [], other, [])

    def test_two_that_disagree(self):
        one = [((0, 1), 2), ((0, 2), 1), ((3, 1), 4)]
        self.refused((1,), ("a", "b"), one, ("b", "c"), [((1, 0), 5), ((2, 2), 1)])
        self.refused((2,), ("a", "b"), one, ("b", "c"), [((1, 0), 6), ((2, 2), 2)])
        self.refused((1,), ("a", "b"), one, ("b", "c"), [((1, 0), 5), ((2, 2), 2)])
        self.refused((0,), ("a", "b"), one, ("b", "c"), [((0, 0), 1), ((1, 0), 6)])
        self.refused((2,), ("a", "b"), one, ("b", "c"), [((1, 0), 6)])
        self.refused((1,), ("a", "b"), one, ("b", "c"), [])
        self.refused((0, 2), ("a", "b"), one, ("a", "b"), [((0, 1), 2), ((0, 3), 1), ((3, 1), 4)])

    def test_two_that_disagree_in_the_total_alone(self):
        self.refused((), ("a",), [((0,), 3)], ("b",), [((0,), 2)])
        self.refused((), ("a",), [((0,), 3)], ("b",), [])
        self.refused((), (), [((), 3)], ("b",), [((1,), LARGE)])
        self.refused((), (), [], (), [((), 1)])

    def test_tallies_of_one_count(self):
        chance = random.Random(6)
        for turn in range(300):
            papers = {}
            for step in range(chance.randrange(14)):
                row = tuple(chance.randrange(3) for name in SIX)
                papers[row] = papers.get(row, 0) + chance.randrange(1, 6)
            whole = tally_of(papers)
            room, other = (tuple(name for name in SIX if chance.random() < 0.5) for side in range(2))
            handed = (room, own_share(SIX, whole, room), other, own_share(SIX, whole, other))
            self.told(own_joined(*handed), *handed)

    def test_more_questions_than_the_bound(self):
        one, other = ("a", "c", "e", "g"), ("b", "c", "d", "f", "h")
        wanted = [((0, 2, 1, 4, 0, 6, 7, 8), 1), ((9, 2, 1, 4, 9, 6, 7, 8), 1)]
        self.told(wanted, one, [((0, 1, 0, 7), 1), ((9, 1, 9, 7), 1)], other, [((2, 1, 4, 6, 8), 2)])

    def test_tallies_of_many_rows(self):
        one = [((x, y), 1 + (3 * x + y) % 4) for x in range(10) for y in range(10)]
        other = [((y, z), 0) for y in range(10) for z in range(10)]
        totals = dict(own_share(("a", "b"), one, ("b",)))
        counts = {}
        for (y, z), count in other:
            counts[(y, z)] = totals[(y,)] - 9 if z == 9 else 1
        handed = (("a", "b"), one, ("b", "c"), tally_of(counts))
        self.told(own_joined(*handed), *handed)


if __name__ == "__main__":
    unittest.main()
