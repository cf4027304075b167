"""Tallies: promises [1] to [4] as far as they speak of them."""

import copy
import itertools
import unittest

from roomtally.errors import BadCount, BadRoom, BadRow, TooFew
from roomtally.tally import is_tally, less, made, plus, shared, total

PAIR = ("a", "b")
THREE = ("a", "b", "c")
LARGE = 10 ** 40
SOME = [((0, 0), 3), ((0, 9), 1), ((2, 1), LARGE), ((9, 0), 2)]
# Every part of its room but the whole one brings several of its rows together.
CUBE = [((x, y, z), 1 + x + 10 * y + 100 * z) for x in (0, 4) for y in (1, 7, 9) for z in (0, 9)]


class TallyCase(unittest.TestCase):
    def told(self, wanted, work, *handed):
        """What is told is as wanted, what was handed in stays, and neither hangs on the other."""
        kept = copy.deepcopy(handed)
        found = work(*handed)
        self.assertEqual(found, wanted)
        self.assertEqual(handed, kept)
        if isinstance(found, list):
            self.assertTrue(all(isinstance(pair, tuple) for pair in found))
            self.assertTrue(all(isinstance(row, tuple) for row, count in found))
            found.append("told")
            self.assertEqual(handed, kept)
            found.pop()
            for thing in handed:
                if isinstance(thing, list):
                    thing.append("handed in")
            self.assertEqual(found, wanted)
            for thing in handed:
                if isinstance(thing, list):
                    thing.clear()
            self.assertEqual(found, wanted)
            self.assertEqual(work(*copy.deepcopy(kept)), wanted)

    def refused(self, error, work, *handed):
        """The call is refused, and what was handed in stays."""
        kept = copy.deepcopy(handed)
        with self.assertRaises(error) as caught:
            work(*handed)
        self.assertIs(caught.exception.__class__, error)
        self.assertEqual(handed, kept)
        return caught.exception


class IsTally(TallyCase):
    def check(self, wanted, room, rows):
        with self.subTest(room=room, rows=rows):
            kept = copy.deepcopy(rows)
            self.assertIs(is_tally(room, rows), wanted)
            self.assertEqual(rows, kept)

    def test_the_empty_tally(self):
        for room in ((), ("a",), PAIR):
            self.check(True, room, [])

    def test_tallies(self):
        self.check(True, PAIR, list(SOME))
        self.check(True, THREE, list(CUBE))
        self.check(True, ("a",), [((answer,), 1) for answer in range(10)])
        self.check(True, (), [((), 1)])

    def test_large_counts(self):
        self.check(True, ("a",), [((0,), LARGE), ((1,), 1), ((2,), 10 ** 12 + 1)])

    def test_a_row_twice(self):
        self.check(False, PAIR, [((0, 1), 1), ((0, 1), 1)])
        self.check(False, PAIR, [((0, 1), 1), ((0, 1), 2), ((0, 2), 1)])
        self.check(False, PAIR, [((0, 0), 1), ((0, 1), 2), ((0, 1), 1)])
        self.check(False, (), [((), 1), ((), 1)])

    def test_only_one_order_rises(self):
        for rows in itertools.permutations(SOME):
            self.check(list(rows) == SOME, PAIR, list(rows))

    def test_counts_below_1(self):
        for count in (0, -1, -2, -LARGE):
            self.check(False, ("a",), [((0,), count)])
            self.check(False, ("a",), [((0,), count), ((1,), 1)])
            self.check(False, ("a",), [((0,), 1), ((1,), count)])
            self.check(False, (), [((), count)])

    def test_answers_out_of_bounds(self):
        for answer in (-LARGE, -1, 10, LARGE):
            for row in ((answer, 5), (5, answer)):
                self.check(False, PAIR, [(row, 1)])
                self.check(False, PAIR, sorted([(row, 1), ((5, 5), 1)]))

    def test_rows_too_short_or_too_long(self):
        for row in ((), (5,), (5, 5, 5)):
            self.check(False, PAIR, [(row, 1)])
            self.check(False, PAIR, sorted([(row, 1), ((0, 0), 1), ((6, 0), 1)]))
        self.check(False, (), [((0,), 1)])
        self.check(False, ("a",), [((), 1)])


class Made(TallyCase):
    def test_of_no_papers(self):
        self.told([], made, PAIR, [])
        self.told([], made, (), [])

    def test_papers_in_any_order(self):
        for papers in itertools.permutations(SOME):
            self.told(SOME, made, PAIR, list(papers))

    def test_rows_that_come_again(self):
        papers = [((1, 1), 2), ((0, 9), 1), ((1, 1), 3), ((0, 9), LARGE), ((1, 1), 0)]
        self.told([((0, 9), LARGE + 1), ((1, 1), 5)], made, PAIR, papers)
        self.told([((), 6)], made, (), [((), 1), ((), 2), ((), 3)])

    def test_counts_of_0_fall_out(self):
        self.told([], made, PAIR, [((1, 1), 0)])
        self.told([], made, (), [((), 0), ((), 0)])
        papers = [((1, 1), 0), ((0, 0), 1), ((1, 1), 0), ((2, 2), 0), ((2, 2), 1)]
        self.told([((0, 0), 1), ((2, 2), 1)], made, PAIR, papers)

    def test_what_comes_is_a_tally(self):
        papers = [((x * y // 9, z), x * z) for x in range(10) for y in range(10) for z in range(10)]
        rows = made(PAIR, papers)
        self.assertTrue(is_tally(PAIR, rows))
        self.assertEqual(total(rows), sum(count for row, count in papers))

    def test_a_row_that_is_none(self):
        for row in ((), (1,), (1, 1, 1), (-1, 0), (0, 10), (LARGE, 0)):
            for count in (0, 1):
                with self.subTest(row=row, count=count):
                    self.refused(BadRow, made, PAIR, [(row, count)])
                    self.refused(BadRow, made, PAIR, [((1, 1), 1), (row, count), ((1, 1), 1)])
                    self.refused(BadRow, made, PAIR, [((1, 1), 1), (row, count)])

    def test_a_count_below_0(self):
        for count in (-1, -2, -LARGE):
            with self.subTest(count):
                self.refused(BadCount, made, PAIR, [((1, 1), count)])
                # Enough of the row is there, and yet the paper is at fault.
                self.refused(BadCount, made, PAIR, [((1, 1), LARGE), ((1, 1), count)])
                self.refused(BadCount, made, PAIR, [((1, 1), count), ((1, 1), LARGE)])

    def test_both_faults_at_one_paper(self):
        self.refused(BadRow, made, PAIR, [((1, 10), -1)])
        self.refused(BadRow, made, PAIR, [((1, 1), 1), ((1,), -1)])

    def test_the_first_paper_at_fault(self):
        bad_row, bad_count, both = ((1, 10), 1), ((1, 1), -1), ((1,), -1)
        self.refused(BadRow, made, PAIR, [((1, 1), 1), bad_row, bad_count])
        self.refused(BadCount, made, PAIR, [((1, 1), 1), bad_count, bad_row])
        self.refused(BadCount, made, PAIR, [((9, 9), -1), ((0, -1), 1)])
        self.refused(BadRow, made, PAIR, [both, bad_count])
        self.refused(BadCount, made, PAIR, [bad_count, both])


class Plus(TallyCase):
    def test_with_the_empty_tally(self):
        self.told([], plus, [], [])
        self.told(SOME, plus, list(SOME), [])
        self.told(SOME, plus, [], list(SOME))

    def test_row_by_row(self):
        one = [((0, 0), 1), ((3, 3), 2)]
        other = [((0, 1), 5), ((3, 3), LARGE), ((9, 9), 1)]
        wanted = [((0, 0), 1), ((0, 1), 5), ((3, 3), LARGE + 2), ((9, 9), 1)]
        self.told(wanted, plus, one, other)
        self.told(wanted, plus, [((0, 1), 5), ((3, 3), LARGE), ((9, 9), 1)], [((0, 0), 1), ((3, 3), 2)])

    def test_rows_of_no_answers(self):
        self.told([((), 5)], plus, [((), 2)], [((), 3)])

    def test_a_tally_and_itself(self):
        rows = list(SOME)
        doubled = plus(rows, rows)
        self.assertEqual(doubled, [(row, 2 * count) for row, count in SOME])
        self.assertEqual(rows, SOME)


class Less(TallyCase):
    def test_with_the_empty_tally(self):
        self.told([], less, [], [])
        self.told(SOME, less, list(SOME), [])

    def test_row_by_row(self):
        other = [((0, 0), 1), ((2, 1), 1)]
        self.told([((0, 0), 2), ((0, 9), 1), ((2, 1), LARGE - 1), ((9, 0), 2)], less, list(SOME), other)

    def test_rows_that_fall_out(self):
        self.told([], less, list(SOME), list(SOME))
        self.told([((0, 0), 3), ((9, 0), 2)], less, list(SOME), [((0, 9), 1), ((2, 1), LARGE)])
        self.told([((9, 0), 1)], less, list(SOME), SOME[:3] + [((9, 0), 1)])
        self.told([], less, [((), 4)], [((), 4)])
        rows = list(SOME)
        self.assertEqual(less(rows, rows), [])
        self.assertEqual(rows, SOME)

    def test_one_row_is_too_few(self):
        for at, (row, count) in enumerate(SOME):
            with self.subTest(row):
                caught = self.refused(TooFew, less, list(SOME), [(row, count + 1)])
                self.assertEqual(caught.row, row)
                caught = self.refused(TooFew, less, list(SOME), SOME[:at] + [(row, count + 1)])
                self.assertEqual(caught.row, row)
                self.assertIsInstance(caught.row, tuple)

    def test_the_least_of_several(self):
        other = [((0, 0), 3), ((0, 9), 2), ((2, 1), LARGE + 1), ((9, 0), 3)]
        self.assertEqual(self.refused(TooFew, less, list(SOME), other).row, (0, 9))
        other = [((2, 1), LARGE + 1), ((9, 0), LARGE)]
        self.assertEqual(self.refused(TooFew, less, list(SOME), other).row, (2, 1))

    def test_the_first_tally_has_no_such_row(self):
        for row in ((0, 1), (2, 0), (9, 9)):
            with self.subTest(row):
                self.assertEqual(self.refused(TooFew, less, list(SOME), [(row, 1)]).row, row)
        other = [((0, 0), 1), ((0, 1), 1), ((0, 9), 2)]
        self.assertEqual(self.refused(TooFew, less, list(SOME), other).row, (0, 1))
        other = [((0, 0), 4), ((0, 1), 1)]
        self.assertEqual(self.refused(TooFew, less, list(SOME), other).row, (0, 0))
        self.assertEqual(self.refused(TooFew, less, [], [((), 1)]).row, ())
        self.assertEqual(self.refused(TooFew, less, [], list(SOME)).row, (0, 0))

    def test_what_was_added_is_taken_away_again(self):
        other = [((0, 0), 7), ((1, 1), 1), ((9, 0), LARGE)]
        self.assertEqual(less(plus(SOME, other), other), SOME)
        self.assertEqual(less(plus(SOME, other), SOME), other)


class Total(TallyCase):
    def test_sums(self):
        self.told(0, total, [])
        self.told(7, total, [((), 7)])
        self.told(LARGE + 6, total, list(SOME))

    def test_added_and_taken_away(self):
        other = [((0, 0), 2), ((2, 1), 5)]
        self.assertEqual(total(plus(SOME, other)), total(SOME) + 7)
        self.assertEqual(total(less(SOME, other)), total(SOME) - 7)


class Shared(TallyCase):
    def test_for_all_questions(self):
        self.told(SOME, shared, PAIR, list(SOME), PAIR)

    def test_for_some_questions(self):
        self.told([((0,), 4), ((2,), LARGE), ((9,), 2)], shared, PAIR, list(SOME), ("a",))
        self.told([((0,), 5), ((1,), LARGE), ((9,), 1)], shared, PAIR, list(SOME), ("b",))
        rows = [((0, 1, 2), 1), ((0, 5, 2), 2), ((3, 1, 0), 4), ((3, 2, 0), 8), ((3, 2, 1), 16)]
        self.told([((0, 2), 3), ((3, 0), 12), ((3, 1), 16)], shared, THREE, rows, ("a", "c"))

    def test_for_no_questions(self):
        self.told([((), LARGE + 6)], shared, PAIR, list(SOME), ())
        self.told([((), 3)], shared, (), [((), 3)], ())

    def test_of_the_empty_tally(self):
        for part in (PAIR, ("a",), ("b",), ()):
            self.told([], shared, PAIR, [], part)
        self.told([], shared, (), [], ())

    def test_each_count_is_a_sum_of_counts(self):
        for many in range(4):
            for places in itertools.combinations(range(3), many):
                part = tuple(THREE[place] for place in places)
                found = {}
                for row, count in CUBE:
                    found.setdefault(tuple(row[place] for place in places), []).append(count)
                wanted = [(row, sum(found[row])) for row in sorted(found)]
                self.told(wanted, shared, THREE, list(CUBE), part)
                rows = shared(THREE, CUBE, part)
                self.assertTrue(is_tally(part, rows))
                self.assertEqual(total(rows), total(CUBE))
                for least in itertools.combinations(part, len(part) // 2):
                    self.assertEqual(shared(part, rows, least), shared(THREE, CUBE, least))

    def test_a_part_that_is_not_within(self):
        for part in (("c",), ("a", "c"), THREE, ("aa",)):
            with self.subTest(part):
                self.refused(BadRoom, shared, PAIR, list(SOME), part)
                self.refused(BadRoom, shared, PAIR, [], part)
        self.refused(BadRoom, shared, (), [], ("a",))
        self.refused(BadRoom, shared, (), [((), 1)], ("a",))

    def test_bad_room_whatever_the_rows(self):
        for rows in ([((1,), 1)], [((10, 0), 1)], [((1, 1), 0)], [((1, 1), 1), ((0, 0), 1)], [((), -1)]):
            with self.subTest(rows):
                self.refused(BadRoom, shared, PAIR, rows, ("c",))


if __name__ == "__main__":
    unittest.main()
