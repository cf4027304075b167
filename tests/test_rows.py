"""Names, rooms and rows: promises [2], [3] and the first words of [5]."""

import itertools
import unittest

from roomtally.errors import BadRoom
from roomtally.rows import common, is_name, is_room, is_row, share, united, within

SIX = ("a", "b", "c", "d", "e", "f")


def parts(room):
    """All rooms within a room."""
    return [part for many in range(len(room) + 1) for part in itertools.combinations(room, many)]


class Names(unittest.TestCase):
    def test_how_many_letters(self):
        for many in range(12):
            with self.subTest(many):
                self.assertIs(is_name("m" * many), 1 <= many <= 8)

    def test_each_small_letter_is_a_name(self):
        for letter in "abcdefghijklmnopqrstuvwxyz":
            with self.subTest(letter):
                self.assertIs(is_name(letter), True)
        self.assertIs(is_name("azbycxdw"), True)

    def test_no_other_sign_wherever_it_stands(self):
        signs = [chr(k) for k in range(32, 127) if k != 37 and not 97 <= k <= 122] + ["\n"]
        for wanted in ("A", "Z", "0", "9", " ", "\n", "`", "{"):
            self.assertIn(wanted, signs)
        for sign in signs:
            for text in (sign, sign + "ab", "a" + sign + "b", "ab" + sign):
                with self.subTest(text=text):
                    self.assertIs(is_name(text), False)


class Rooms(unittest.TestCase):
    def test_how_many_names(self):
        seven = SIX + ("g",)
        for many in range(8):
            with self.subTest(many):
                self.assertIs(is_room(seven[:many]), many <= 6)

    def test_a_name_twice(self):
        for names in (("a", "a"), ("a", "b", "b"), ("a", "a", "b"), ("a", "b", "a")):
            with self.subTest(names):
                self.assertIs(is_room(names), False)

    def test_only_one_order_rises(self):
        for names in itertools.permutations(("a", "ab", "b", "z")):
            with self.subTest(names):
                self.assertIs(is_room(names), names == ("a", "ab", "b", "z"))

    def test_two_names_exchanged(self):
        for at in range(5):
            names = SIX[:at] + (SIX[at + 1], SIX[at]) + SIX[at + 2:]
            with self.subTest(names):
                self.assertIs(is_room(names), False)

    def test_names_are_ordered_as_texts(self):
        self.assertIs(is_room(("aa", "b")), True)
        self.assertIs(is_room(("b", "aa")), False)
        self.assertIs(is_room(("a", "aa", "aaa")), True)

    def test_a_name_that_is_none(self):
        for wrong in ("", "A", "a1", "abcdefghi", "b c"):
            with self.subTest(wrong):
                self.assertIs(is_room((wrong,)), False)
                self.assertIs(is_room(tuple(sorted((wrong, "b", "c")))), False)
        self.assertIs(is_room(("a", "b", "c{")), False)


class Rows(unittest.TestCase):
    def test_as_many_answers_as_questions(self):
        for questions in range(7):
            for answers in range(9):
                with self.subTest(questions=questions, answers=answers):
                    self.assertIs(is_row(SIX[:questions], (5,) * answers), questions == answers)

    def test_answers_are_0_to_9(self):
        for answer in (-10 ** 20, -10, -2, -1, 0, 1, 5, 8, 9, 10, 11, 99, 10 ** 20):
            for row in ((answer, 5, 5), (5, answer, 5), (5, 5, answer)):
                with self.subTest(row):
                    self.assertIs(is_row(("a", "b", "c"), row), 0 <= answer <= 9)

    def test_answers_need_not_rise(self):
        self.assertIs(is_row(("a", "b", "c"), (9, 0, 9)), True)

    def test_the_room_of_no_questions_has_one_row(self):
        self.assertIs(is_row((), ()), True)
        self.assertIs(is_row((), (0,)), False)
        self.assertIs(is_row(("a",), ()), False)


class TwoRooms(unittest.TestCase):
    def test_within(self):
        cases = (
            ((), (), True), ((), ("a",), True), (("a",), (), False),
            (("a",), ("a",), True), (("a", "c"), ("a", "b", "c"), True),
            (("a", "b", "c"), ("a", "c"), False), (("a", "d"), ("a", "b", "c"), False),
            (("a",), ("b",), False), (("a",), ("ab",), False), (("b",), ("ab", "abc"), False),
        )
        for part, room, wanted in cases:
            with self.subTest(part=part, room=room):
                self.assertIs(within(part, room), wanted)

    def test_united(self):
        cases = (
            ((), (), ()), ((), ("b",), ("b",)), (("b",), (), ("b",)),
            (("c", "d"), ("a", "b"), ("a", "b", "c", "d")),
            (("a", "c"), ("b", "c"), ("a", "b", "c")),
            (("a", "b"), ("a", "b"), ("a", "b")), (("b",), ("a", "b", "c"), ("a", "b", "c")),
            (("b",), ("aa",), ("aa", "b")), (("d", "e", "f"), ("a", "b", "c"), SIX),
        )
        for one, other, wanted in cases:
            with self.subTest(one=one, other=other):
                self.assertEqual(united(one, other), wanted)

    def test_common(self):
        cases = (
            ((), (), ()), ((), ("b",), ()), (("b",), (), ()),
            (("c", "d"), ("a", "b"), ()), (("a", "c"), ("b", "c"), ("c",)),
            (("a", "b"), ("a", "b"), ("a", "b")), (("b",), ("a", "b", "c"), ("b",)),
            (("a", "c", "d", "e"), ("b", "c", "e"), ("c", "e")), (("ab",), ("a", "b"), ()),
        )
        for one, other, wanted in cases:
            with self.subTest(one=one, other=other):
                self.assertEqual(common(one, other), wanted)

    def test_all_rooms_of_five_questions(self):
        for one in parts(SIX[:5]):
            for other in parts(SIX[:5]):
                all_of, both = united(one, other), common(one, other)
                with self.subTest(one=one, other=other):
                    self.assertIs(within(one, other), set(one) <= set(other))
                    self.assertEqual(all_of, tuple(sorted(set(one) | set(other))))
                    self.assertEqual(both, tuple(sorted(set(one) & set(other))))
                    self.assertIsInstance(all_of, tuple)
                    self.assertIsInstance(both, tuple)
                    self.assertTrue(is_room(all_of) and is_room(both))


class Share(unittest.TestCase):
    def test_the_answers_to_these_questions(self):
        room, row = ("ab", "c", "dd", "e"), (7, 0, 9, 3)
        cases = (
            (room, row), (("ab",), (7,)), (("e",), (3,)), (("c", "e"), (0, 3)),
            (("ab", "c", "e"), (7, 0, 3)), ((), ()),
        )
        for part, wanted in cases:
            with self.subTest(part):
                self.assertEqual(share(room, row, part), wanted)
                self.assertIsInstance(share(room, row, part), tuple)

    def test_of_no_questions(self):
        self.assertEqual(share((), (), ()), ())

    def test_the_share_of_a_share_is_the_share(self):
        row = (6, 5, 4, 3, 2, 1)
        for part in parts(SIX):
            for least in parts(part):
                with self.subTest(part=part, least=least):
                    once = share(part, share(SIX, row, part), least)
                    self.assertEqual(once, share(SIX, row, least))

    def test_a_part_that_is_not_within(self):
        room, row = ("b", "d"), (1, 2)
        for part in (("a",), ("c",), ("e",), ("a", "b"), ("b", "c"), ("b", "c", "d"), ("d", "e")):
            with self.subTest(part), self.assertRaises(BadRoom):
                share(room, row, part)
        with self.assertRaises(BadRoom):
            share((), (), ("a",))

    def test_bad_room_whatever_the_row(self):
        for row in ((0,), (9,), (10,), (-1,), (), (1, 2)):
            with self.subTest(row), self.assertRaises(BadRoom):
                share(("a",), row, ("b",))


if __name__ == "__main__":
    unittest.main()
