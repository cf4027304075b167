"""The refusals: where they stand, and the values they bear."""

import unittest

from roomtally import errors

PLAIN = (
    "BadName", "BadRoom", "BadRow", "BadTally", "BadCount",
    "NoRoom", "Taken", "Full", "Hangs", "NoBack",
)
VALUED = (("TooFew", "row", (1, 2)), ("Apart", "row", ()), ("BadText", "at", 3))
NAMES = PLAIN + tuple(name for name, value, told in VALUED)


class Standing(unittest.TestCase):
    def test_there_are_thirteen(self):
        self.assertEqual(len(set(NAMES)), 13)
        classes = [name for name, thing in vars(errors).items() if isinstance(thing, type)]
        self.assertEqual(sorted(classes), sorted(NAMES + ("RoomError",)))

    def test_room_error_stands_straight_under_value_error(self):
        self.assertEqual(errors.RoomError.__bases__, (ValueError,))

    def test_each_stands_straight_under_room_error(self):
        for name in NAMES:
            with self.subTest(name):
                self.assertEqual(getattr(errors, name).__bases__, (errors.RoomError,))

    def test_none_is_taken_for_another(self):
        for name in NAMES:
            for other in NAMES:
                with self.subTest(name=name, other=other):
                    found = issubclass(getattr(errors, name), getattr(errors, other))
                    self.assertEqual(found, name == other)


class Values(unittest.TestCase):
    def test_the_value_is_set_when_it_is_made(self):
        for name, value, told in VALUED:
            with self.subTest(name):
                self.assertEqual(getattr(getattr(errors, name)(told), value), told)

    def test_each_object_has_its_own_value(self):
        first, second = errors.TooFew((0,)), errors.TooFew((9,))
        self.assertEqual((first.row, second.row), ((0,), (9,)))

    def test_each_can_be_raised_and_taken_as_a_value_error(self):
        for name in PLAIN:
            with self.subTest(name), self.assertRaises(ValueError):
                raise getattr(errors, name)("words")
        for name, value, told in VALUED:
            with self.subTest(name), self.assertRaises(ValueError):
                raise getattr(errors, name)(told)


if __name__ == "__main__":
    unittest.main()
