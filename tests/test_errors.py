"""The refusals: where they stand, and the values they bear."""

import unittest

from roomtally import errors
from roomtally.desk import Desk
from roomtally.house import House
from roomtally.joinup import joined
from roomtally.notes import read_deed, read_page
from roomtally.rows import share
from roomtally.tally import less, made, shared

PLAIN = (
    "BadName", "BadRoom", "BadRow", "BadTally", "BadCount",
    "NoRoom", "Taken", "Full", "Hangs", "NoBack",
)
VALUED = (("TooFew", "row", (1, 2)), ("Apart", "row", ()), ("BadText", "at", 3))
NAMES = PLAIN + tuple(name for name, value, told in VALUED)


class Standing(unittest.TestCase):
    def test_there_are_thirteen(self):
        self.assertEqual(len(set(NAMES)), 13)
        classes = [name for name, thing in vars(errors).items() if isinstance(thing, type)]
        self.assertEqual(sorted(classes), sorted(NAMES + ("RoomError",)))

    def test_room_error_stands_straight_under_value_error(self):
        self.assertEqual(errors.RoomError.__bases__, (ValueError,))

    def test_each_stands_straight_under_room_error(self):
        for name in NAMES:
            with self.subTest(name):
                self.assertEqual(getattr(errors, name).__bases__, (errors.RoomError,))

    def test_none_is_taken_for_another(self):
        for name in NAMES:
            for other in NAMES:
                with self.subTest(name=name, other=other):
                    found = issubclass(getattr(errors, name), getattr(errors, other))
                    self.assertEqual(found, name == other)


class Values(unittest.TestCase):
    def test_the_value_is_set_when_it_is_made(self):
        for name, value, told in VALUED:
            with self.subTest(name):
                self.assertEqual(getattr(getattr(errors, name)(told), value), told)

    def test_each_object_has_its_own_value(self):
        first, second = errors.TooFew((0,)), errors.TooFew((9,))
        self.assertEqual((first.row, second.row), ((0,), (9,)))

    def test_each_can_be_raised_and_taken_as_a_value_error(self):
        for name in PLAIN:
            with self.subTest(name), self.assertRaises(ValueError):
                raise getattr(errors, name)("words")
        for name, value, told in VALUED:
            with self.subTest(name), self.assertRaises(ValueError):
                raise getattr(errors, name)(told)


def started(*names):
    """A house of two questions with an empty room of the first one for each name."""
    house = House(("a", "b"))
    for name in names:
        house.do(("start", name, ("a",), []))
    return house


def doing(deed, *names):
    return lambda: started(*names).do(deed)


# Each refusal, its value where it has one, and a call that is refused so.
RAISED = (
    ("BadName", None, doing(("start", "X", ("a",), []))),
    ("BadRoom", None, lambda: share(("a",), (1,), ("b",))),
    ("BadRoom", None, lambda: shared(("a",), [((1,), 1)], ("b",))),
    ("BadRoom", None, lambda: House(())),
    ("BadRoom", None, lambda: Desk(())),
    ("BadRoom", None, doing(("start", "x", (), []))),
    ("BadRow", None, lambda: made(("a",), [((), 1)])),
    ("BadRow", None, doing(("enter", (1,), 1))),
    ("BadRow", None, doing(("withdraw", (1,), 1))),
    ("BadRow", None, doing(("mark", "x", (1, 1), 1), "x")),
    ("BadRow", None, doing(("strike", "x", (1, 1), 1), "x")),
    ("BadTally", None, doing(("start", "x", ("a",), [((1,), 0)]))),
    ("BadCount", None, lambda: made(("a",), [((1,), -1)])),
    ("BadCount", None, doing(("enter", (1, 1), 0))),
    ("BadCount", None, doing(("withdraw", (1, 1), 0))),
    ("BadCount", None, doing(("mark", "x", (1,), 0), "x")),
    ("BadCount", None, doing(("strike", "x", (1,), 0), "x")),
    ("NoRoom", None, lambda: started().room("x")),
    ("NoRoom", None, lambda: started().tally("x")),
    ("NoRoom", None, doing(("shut", "x"))),
    ("NoRoom", None, doing(("mark", "x", (1,), 1))),
    ("NoRoom", None, doing(("strike", "x", (1,), 1))),
    ("Taken", None, doing(("start", "x", ("a",), []), "x")),
    ("Full", None, doing(("start", "x", ("a",), []), *"abcdefgh")),
    ("TooFew", (1,), lambda: less([], [((1,), 1)])),
    ("TooFew", (1,), doing(("withdraw", (1, 2), 1), "x")),
    ("TooFew", (3,), doing(("strike", "x", (3,), 1), "x")),
    ("Apart", (), lambda: joined(("a",), [], ("b",), [((1,), 1)])),
    ("Apart", (4,), lambda: joined(("a",), [], ("a",), [((4,), 1)])),
    ("Hangs", None, lambda: started("x", "y").borne()),
    ("NoBack", None, lambda: started().back()),
    ("NoBack", None, lambda: started("x").again()),
    ("BadText", 0, lambda: read_deed("shut")),
    ("BadText", 0, lambda: read_page("")),
    ("BadText", 1, lambda: read_page("questions a\nshut x\n")),
)


class Raised(unittest.TestCase):
    def test_each_of_the_thirteen_is_raised(self):
        self.assertEqual({name for name, told, work in RAISED}, set(NAMES))

    def test_caught_as_itself_as_room_error_and_as_value_error(self):
        for at, (name, told, work) in enumerate(RAISED):
            for error in (getattr(errors, name), errors.RoomError, ValueError):
                with self.subTest(at=at, name=name, error=error), self.assertRaises(error) as caught:
                    work()
                self.assertIs(caught.exception.__class__, getattr(errors, name))

    def test_its_value(self):
        values = {name: value for name, value, told in VALUED}
        for at, (name, told, work) in enumerate(RAISED):
            if name in values:
                with self.subTest(at=at, name=name), self.assertRaises(getattr(errors, name)) as caught:
                    work()
                self.assertEqual(getattr(caught.exception, values[name]), told)


if __name__ == "__main__":
    unittest.main()
