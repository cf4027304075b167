"""The house, its deeds and what can be asked of it: promises [1], [8] to [13]."""

import copy
import itertools
import random
import unittest

from roomtally import errors
from roomtally.agree import bars
from roomtally.hanging import good_paper
from roomtally.house import House
from roomtally.whole import is_whole, whole

MOST = 10 ** 12
SIX = ("a", "b", "c", "d", "e", "f")
FOUR = SIX[:4]
TRIANGLE = (("ab", ("a", "b")), ("bc", ("b", "c")), ("ac", ("a", "c")))


def tally_of(counts):
    return [(row, counts[row]) for row in sorted(counts) if counts[row]]


def own_share(room, row, part):
    answers = dict(zip(room, row))
    return tuple(answers[name] for name in part)


def asked(house):
    """All that can be asked of a house."""
    names = house.rooms()
    try:
        borne = house.borne()
    except errors.Hangs:
        borne = "hangs"
    return (
        house.questions(), names, [house.room(name) for name in names], [house.tally(name) for name in names],
        house.bars(), house.whole(), house.paper(), borne, house.deeds(),
    )


def walked(house):
    """All that can be asked at each step up to the end, down to nothing, and back to where the house was."""
    steps = [asked(house)]
    many = len(house.deeds())
    for move in (house.again, house.back):
        while True:
            try:
                steps.append((move(), asked(house)))
            except errors.NoBack:
                break
    for step in range(many):
        steps.append((house.again(), asked(house)))
    return steps


def told(questions, deeds):
    """A house of these questions, told these deeds."""
    house = House(questions)
    for deed in deeds:
        house.do(deed)
    return house


class Own:
    """A house reckoned here: a list of [name, room, counts], and what each deed comes to by [11]."""

    def __init__(self, questions):
        self.questions = questions
        self.rooms = []

    def find(self, name):
        for entry in self.rooms:
            if entry[0] == name:
                return entry
        return None

    def papers_at_fault(self, room, row, count):
        if len(row) != len(room) or not all(0 <= answer <= 9 for answer in row):
            return "BadRow"
        return None if 1 <= count <= MOST else "BadCount"

    def start_at_fault(self, name, room, rows):
        if not (1 <= len(name) <= 8 and set(name) <= set("abcdefghijklmnopqrstuvwxyz")):
            return "BadName"
        if self.find(name):
            return "Taken"
        if not room or list(room) != sorted(set(room)) or not set(room) <= set(self.questions):
            return "BadRoom"
        for row, count in rows:
            if self.papers_at_fault(room, row, count):
                return "BadTally"
        if [row for row, count in rows] != sorted({row for row, count in rows}):
            return "BadTally"
        return "Full" if len(self.rooms) == 8 else None

    def moved(self, entries, row, step):
        """The share of the first entry that has too few, or None where all were moved."""
        shares = [own_share(self.questions, row, entry[1]) for entry in entries]
        for entry, share in zip(entries, shares):
            if entry[2].get(share, 0) + step < 0:
                return share
        for entry, share in zip(entries, shares):
            entry[2][share] = entry[2].get(share, 0) + step
        return None

    def do(self, deed):
        """(the name of the refusal, its row), each None where there is none."""
        word = deed[0]
        if word == "start":
            fault = self.start_at_fault(*deed[1:])
            if not fault:
                self.rooms.append([deed[1], deed[2], dict(deed[3])])
            return (fault, None)
        if word in ("enter", "withdraw"):
            fault = self.papers_at_fault(self.questions, deed[1], deed[2])
            if fault:
                return (fault, None)
            few = self.moved(self.rooms, deed[1], deed[2] if word == "enter" else -deed[2])
            return (None if few is None else "TooFew", few)
        entry = self.find(deed[1])
        if not entry:
            return ("NoRoom", None)
        if word == "shut":
            self.rooms.remove(entry)
            return (None, None)
        fault = self.papers_at_fault(entry[1], deed[2], deed[3])
        if fault:
            return (fault, None)
        left = entry[2].get(deed[2], 0) + (deed[3] if word == "mark" else -deed[3])
        if left < 0:
            return ("TooFew", deed[2])
        entry[2][deed[2]] = left
        return (None, None)

    def state(self):
        return [(name, room, tally_of(counts)) for name, room, counts in self.rooms]


def state(house):
    return [(name, house.room(name), house.tally(name)) for name in house.rooms()]


def some_row(chance, room):
    if chance.random() < 0.04:
        return chance.choice(((), (0,) * (len(room) + 1), (10,) * len(room), (-1,) * len(room)))
    return tuple(chance.randrange(2) for name in room)


def some_number(chance):
    return chance.choice((1, 1, 1, 2, 2, 3, MOST, MOST - 1) if chance.random() < 0.94 else (0, -1, MOST + 1))


def some_deed(chance, questions, names):
    """Some deed, now and then one with a fault or several."""
    word = chance.choice(("start", "start", "shut", "enter", "enter", "withdraw", "mark", "strike"))
    name = chance.choice(names)
    room = tuple(asking for asking in questions if chance.random() < 0.5)
    if word == "start":
        rows = tally_of({some_row(chance, room): some_number(chance) for step in range(chance.randrange(4))})
        name = chance.choice(names + ("", "A", "ninesigns")) if chance.random() < 0.1 else name
        room = room + ("zz",) if chance.random() < 0.05 else room
        return (word, name, room, rows)
    if word == "shut":
        return (word, name)
    if word in ("enter", "withdraw"):
        return (word, some_row(chance, questions), some_number(chance))
    return (word, name, some_row(chance, room), some_number(chance))


class HouseCase(unittest.TestCase):
    def refused(self, name, house, deed, row=None):
        """The deed is refused so, changes nothing that can be asked, is not kept, and lets nothing go."""
        with self.subTest(name=name, deed=deed):
            ahead = walked(house.twin())
            kept = copy.deepcopy(deed)
            error = getattr(errors, name)
            with self.assertRaises(error) as caught:
                house.do(deed)
            self.assertIs(caught.exception.__class__, error)
            if name == "TooFew":
                self.assertEqual(caught.exception.row, row)
                self.assertIsInstance(caught.exception.row, tuple)
            self.assertEqual(deed, kept)
            self.assertEqual(walked(house.twin()), ahead)
            self.assertEqual(walked(house), ahead)

    def done(self, house, deed):
        kept = copy.deepcopy(deed)
        self.assertIsNone(house.do(deed))
        self.assertEqual(deed, kept)


class Questions(unittest.TestCase):
    def test_a_new_house(self):
        for many in range(1, 7):
            house = House(SIX[:many])
            self.assertEqual(house.questions(), SIX[:many])
            self.assertIsInstance(house.questions(), tuple)
            self.assertEqual((house.rooms(), house.deeds(), house.bars()), ([], [], []))
            self.assertEqual(house.whole(), ("count", (), []))
            self.assertEqual(house.paper(), ("order", []))
            self.assertRaises(errors.Hangs, house.borne)

    def test_names_of_any_length(self):
        self.assertEqual(House(("ab", "abcdefgh", "b")).questions(), ("ab", "abcdefgh", "b"))

    def test_bad_rooms(self):
        for questions in ((), SIX + ("g",), ("b", "a"), ("a", "a"), ("",), ("A",), ("a", "b c"), ("ninesigns",),
                          ("a1",), ("a", "")):
            with self.subTest(questions), self.assertRaises(errors.BadRoom) as caught:
                House(questions)
            self.assertIs(caught.exception.__class__, errors.BadRoom)


class Start(HouseCase):
    def test_rooms_stand_in_the_order_of_starting(self):
        house = House(FOUR)
        self.done(house, ("start", "zoo", ("a", "c"), [((0, 1), 2), ((5, 0), MOST)]))
        self.done(house, ("start", "all", FOUR, []))
        self.done(house, ("start", "mid", ("b",), [((9,), 1)]))
        self.assertEqual(state(house), [
            ("zoo", ("a", "c"), [((0, 1), 2), ((5, 0), MOST)]), ("all", FOUR, []), ("mid", ("b",), [((9,), 1)]),
        ])
        self.assertIsInstance(house.rooms(), list)
        self.assertIsInstance(house.room("zoo"), tuple)
        self.assertIsInstance(house.tally("zoo"), list)

    def test_rooms_may_be_alike(self):
        house = told(FOUR, [("start", name, ("a",), [((1,), 1)]) for name in ("x", "y")])
        self.assertEqual(state(house), [("x", ("a",), [((1,), 1)]), ("y", ("a",), [((1,), 1)])])

    def test_each_refusal(self):
        house = told(FOUR, [("start", "x", ("a", "b"), [((0, 0), 1)]), ("mark", "x", (0, 0), 1)])
        house.back()
        for name in ("", "A", "ninesigns", "a b", "x1", "x\n", " ", "-"):
            self.refused("BadName", house, ("start", name, ("a",), []))
        self.refused("Taken", house, ("start", "x", ("a",), []))
        self.refused("Taken", house, ("start", "x", ("a", "b"), [((0, 0), 1)]))
        for room in ((), ("e",), ("a", "e"), ("b", "a"), ("a", "a"), ("",), ("A",), SIX, SIX + ("g",)):
            self.refused("BadRoom", house, ("start", "y", room, []))
        bad = (
            [((0,), 1)], [((0, 0, 0), 1)], [((), 1)], [((0, 10), 1)], [((-1, 0), 1)], [((0, 0), 0)], [((0, 0), -1)],
            [((0, 0), 1), ((0, 0), 1)], [((0, 1), 1), ((0, 0), 1)], [((0, 0), MOST + 1)],
            [((0, 0), 1), ((0, 1), MOST + 1)], [((0, 0), MOST + 1), ((0, 1), 1)], [((0, 0), 1), ((0, 1), 10 ** 40)],
        )
        for rows in bad:
            self.refused("BadTally", house, ("start", "y", ("a", "b"), rows))

    def test_the_highest_count(self):
        house = told(FOUR, [("start", "x", ("a",), [((0,), MOST), ((1,), MOST - 1)])])
        self.assertEqual(house.tally("x"), [((0,), MOST), ((1,), MOST - 1)])

    def test_eight_rooms(self):
        names = ["r" + sign for sign in "hgfedcba"]
        house = House(FOUR)
        for name in names:
            self.done(house, ("start", name, ("a",), []))
        self.assertEqual(house.rooms(), names)
        self.refused("Full", house, ("start", "more", ("a",), []))
        self.done(house, ("shut", "re"))
        self.done(house, ("start", "more", ("a",), []))
        self.assertEqual(house.rooms(), ["rh", "rg", "rf", "rd", "rc", "rb", "ra", "more"])
        self.refused("Full", house, ("start", "re", ("a",), []))

    def test_the_first_named_refusal_goes_first(self):
        few = told(FOUR, [("start", "x", ("a",), [])])
        full = told(FOUR, [("start", "x" + sign, ("a",), []) for sign in "abcdefg"] + [("start", "x", ("a",), [])])
        names = ((None, "y"), ("BadName", "Y"), ("Taken", "x"))
        rooms = ((None, ("a", "b")), ("BadRoom", ()), ("BadRoom", ("e",)), ("BadRoom", ("b", "a")))
        tallies = ((None, [((0, 0), 1)]), ("BadTally", [((0, 0, 0, 0, 0), 1)]), ("BadTally", [((0, 0), MOST + 1)]))
        for (name_fault, name), (room_fault, room), (tally_fault, rows) in itertools.product(names, rooms, tallies):
            for house, full_fault in ((few, None), (full, "Full")):
                fault = name_fault or room_fault or tally_fault or full_fault
                if fault:
                    self.refused(fault, house, ("start", name, room, list(rows)))

    def test_a_tally_that_was_handed_in_may_be_changed(self):
        rows = [((0,), 1), ((1,), 2)]
        deed = ("start", "x", ("a",), rows)
        house = House(FOUR)
        self.done(house, deed)
        ahead = copy.deepcopy(asked(house))
        rows.append(((5,), 5))
        self.assertEqual(asked(house), ahead)
        rows.clear()
        self.assertEqual(asked(house), ahead)
        house.back()
        house.again()
        self.assertEqual(asked(house), ahead)


class Shut(HouseCase):
    def test_the_room_is_gone_and_its_name_free(self):
        house = told(FOUR, [("start", name, (name,), [((1,), 1)]) for name in "abc"])
        self.done(house, ("shut", "b"))
        self.assertEqual(state(house), [("a", ("a",), [((1,), 1)]), ("c", ("c",), [((1,), 1)])])
        self.assertRaises(errors.NoRoom, house.room, "b")
        self.assertRaises(errors.NoRoom, house.tally, "b")
        self.refused("NoRoom", house, ("shut", "b"))
        self.refused("NoRoom", house, ("mark", "b", (1,), 1))
        self.done(house, ("start", "b", ("a", "d"), []))
        self.assertEqual(house.rooms(), ["a", "c", "b"])
        self.assertEqual((house.room("b"), house.tally("b")), (("a", "d"), []))

    def test_no_room(self):
        house = House(FOUR)
        for name in ("a", "", "A", "ninesigns"):
            self.refused("NoRoom", house, ("shut", name))
        house.do(("start", "a", ("a",), []))
        for name in ("b", "", "A", "aa"):
            self.refused("NoRoom", house, ("shut", name))

    def test_taken_back_it_stands_at_its_place(self):
        for name in "abc":
            house = told(FOUR, [("start", name, (name,), [((1,), 1)]) for name in "abc"] + [("enter", (1, 0, 2, 0), 4)])
            ahead = asked(house)
            house.do(("shut", name))
            self.assertEqual(house.back(), ("shut", name))
            self.assertEqual(asked(house), ahead)


class EnterAndWithdraw(HouseCase):
    def three(self):
        return told(FOUR, [
            ("start", "x", ("b", "d"), [((0, 0), 5), ((1, 2), 3)]), ("start", "y", ("a",), [((1,), 1)]),
            ("start", "z", FOUR, []),
        ])

    def test_each_room_gets_its_share(self):
        house = self.three()
        self.done(house, ("enter", (1, 0, 9, 0), 4))
        self.assertEqual([house.tally(name) for name in "xyz"],
                         [[((0, 0), 9), ((1, 2), 3)], [((1,), 5)], [((1, 0, 9, 0), 4)]])
        self.done(house, ("enter", (0, 1, 9, 1), 1))
        self.assertEqual([house.tally(name) for name in "xyz"], [
            [((0, 0), 9), ((1, 1), 1), ((1, 2), 3)], [((0,), 1), ((1,), 5)], [((0, 1, 9, 1), 1), ((1, 0, 9, 0), 4)],
        ])

    def test_withdrawn_again(self):
        house = self.three()
        ahead = state(house)
        self.done(house, ("enter", (1, 0, 9, 0), 4))
        self.done(house, ("withdraw", (1, 0, 9, 0), 3))
        self.assertEqual([house.tally(name) for name in "xyz"],
                         [[((0, 0), 6), ((1, 2), 3)], [((1,), 2)], [((1, 0, 9, 0), 1)]])
        self.done(house, ("withdraw", (1, 0, 9, 0), 1))
        self.assertEqual(state(house), ahead)

    def test_without_rooms(self):
        house = House(("a",))
        self.done(house, ("enter", (1,), 1))
        self.done(house, ("withdraw", (9,), MOST))
        self.assertEqual(house.deeds(), [("enter", (1,), 1), ("withdraw", (9,), MOST)])
        self.assertEqual(house.rooms(), [])
        house.do(("start", "x", ("a",), []))
        self.assertEqual(house.tally("x"), [])

    def test_counts_above_the_highest(self):
        house = told(("a", "b"), [("start", "x", ("a",), [((0,), MOST)]), ("start", "y", ("b",), [])])
        for turn in range(3):
            self.done(house, ("enter", (0, turn), MOST))
        self.assertEqual(house.tally("x"), [((0,), 4 * MOST)])
        self.assertEqual(house.tally("y"), [((turn,), MOST) for turn in range(3)])
        self.done(house, ("mark", "x", (0,), MOST))
        self.assertEqual(house.tally("x"), [((0,), 5 * MOST)])
        self.done(house, ("withdraw", (0, 2), MOST))
        self.done(house, ("strike", "x", (0,), 1))
        self.assertEqual(house.tally("x"), [((0,), 4 * MOST - 1)])

    def test_bad_rows_and_counts(self):
        house = self.three()
        house.do(("enter", (1, 1, 1, 1), 5))
        house.do(("shut", "x"))
        house.back()
        for word in ("enter", "withdraw"):
            for row in ((), (1,), (1, 1, 1), (1, 1, 1, 1, 1), (1, 1, 1, 10), (-1, 1, 1, 1)):
                for count in (1, 0, -1, MOST + 1):
                    self.refused("BadRow", house, (word, row, count))
            for count in (0, -1, -MOST, MOST + 1, 10 ** 40):
                self.refused("BadCount", house, (word, (1, 1, 1, 1), count))
                self.refused("BadCount", house, (word, (9, 9, 9, 9), count))
        self.refused("BadRow", House(FOUR), ("withdraw", (1,), 1))
        self.refused("BadCount", House(FOUR), ("withdraw", (1, 1, 1, 1), 0))

    def test_too_few_in_the_first_such_room(self):
        house = told(FOUR, [
            ("start", "x", ("b", "d"), [((2, 4), 5)]), ("start", "y", ("a",), [((1,), 4)]),
            ("start", "z", ("c", "d"), [((3, 4), 3)]),
        ])
        self.refused("TooFew", house, ("withdraw", (1, 2, 3, 4), 6), row=(2, 4))
        self.refused("TooFew", house, ("withdraw", (1, 2, 3, 4), 5), row=(1,))
        self.refused("TooFew", house, ("withdraw", (1, 2, 3, 4), 4), row=(3, 4))
        self.refused("TooFew", house, ("withdraw", (0, 2, 3, 4), 1), row=(0,))
        self.refused("TooFew", house, ("withdraw", (1, 2, 3, 5), 1), row=(2, 5))
        self.refused("TooFew", house, ("withdraw", (0, 0, 0, 0), MOST), row=(0, 0))
        self.done(house, ("withdraw", (1, 2, 3, 4), 3))
        self.assertEqual(state(house), [
            ("x", ("b", "d"), [((2, 4), 2)]), ("y", ("a",), [((1,), 1)]), ("z", ("c", "d"), []),
        ])
        # The first room is the one that was started first, not the one of the least name.
        house = told(FOUR, [("start", "z", ("a",), []), ("start", "a", ("b",), [])])
        self.refused("TooFew", house, ("withdraw", (1, 2, 3, 4), 1), row=(1,))
        house = told(FOUR, [("start", "z", ("a",), []), ("start", "a", ("b",), []), ("shut", "z"),
                            ("start", "z", ("a",), [])])
        self.refused("TooFew", house, ("withdraw", (1, 2, 3, 4), 1), row=(2,))


class MarkAndStrike(HouseCase):
    def two(self):
        return told(FOUR, [("start", "x", ("b", "d"), [((0, 0), 5)]), ("start", "y", ("b", "d"), [((0, 0), 5)])])

    def test_one_room_alone(self):
        house = self.two()
        self.done(house, ("mark", "x", (0, 0), 2))
        self.done(house, ("mark", "x", (9, 1), MOST))
        self.assertEqual(house.tally("x"), [((0, 0), 7), ((9, 1), MOST)])
        self.assertEqual(house.tally("y"), [((0, 0), 5)])
        self.done(house, ("strike", "y", (0, 0), 4))
        self.assertEqual(house.tally("y"), [((0, 0), 1)])
        self.done(house, ("strike", "y", (0, 0), 1))
        self.assertEqual(house.tally("y"), [])
        self.done(house, ("strike", "x", (9, 1), MOST))
        self.assertEqual(house.tally("x"), [((0, 0), 7)])
        self.assertEqual(house.rooms(), ["x", "y"])

    def test_refusals_in_their_order(self):
        house = self.two()
        house.do(("mark", "y", (1, 1), 1))
        house.back()
        names = ((None, "x"), ("NoRoom", "z"), ("NoRoom", ""), ("NoRoom", "X"))
        rows = ((None, (0, 0)), ("BadRow", (0,)), ("BadRow", (0, 0, 0, 0)), ("BadRow", (0, 10)), ("BadRow", (-1, 0)))
        counts = ((None, 6), ("BadCount", 0), ("BadCount", -1), ("BadCount", MOST + 1))
        for (name_fault, name), (row_fault, row), (count_fault, count) in itertools.product(names, rows, counts):
            fault = name_fault or row_fault or count_fault
            if fault:
                self.refused(fault, house, ("mark", name, row, count))
            self.refused(fault or "TooFew", house, ("strike", name, row, count), row=row)

    def test_too_few_with_the_row(self):
        house = self.two()
        self.refused("TooFew", house, ("strike", "x", (0, 0), 6), row=(0, 0))
        self.refused("TooFew", house, ("strike", "x", (0, 0), MOST), row=(0, 0))
        self.refused("TooFew", house, ("strike", "x", (3, 4), 1), row=(3, 4))
        house.do(("mark", "y", (3, 4), 1))
        self.refused("TooFew", house, ("strike", "x", (3, 4), 1), row=(3, 4))


class Asked(unittest.TestCase):
    def test_no_room(self):
        house = told(FOUR, [("start", "x", ("a",), [])])
        for name in ("y", "", "X", "xx", "ninesigns"):
            for ask in (house.room, house.tally):
                with self.subTest(name), self.assertRaises(errors.NoRoom) as caught:
                    ask(name)
                self.assertIs(caught.exception.__class__, errors.NoRoom)

    def test_told_lists_may_be_changed(self):
        house = told(FOUR, [("start", name, room, [((1, 1), 1)]) for name, room in TRIANGLE] + [("enter", (0,) * 4, 3)])
        ahead = copy.deepcopy(walked(house))
        for change in (list.clear, lambda rows: rows.append("told"), list.reverse):
            for deed in house.deeds():
                if deed[0] == "start":
                    change(deed[3])
            for rows in (house.rooms(), house.tally("ab"), house.bars(), house.deeds(), house.paper()[1],
                         house.whole()[1], house.borne(), *[rows for name, rows in house.borne()]):
                change(rows)
            self.assertEqual(walked(house), ahead)

    def test_told_deeds_may_be_changed(self):
        house = told(FOUR, [("start", "x", ("a",), [((1,), 1)])])
        ahead = copy.deepcopy(asked(house))
        house.back()[3].clear()
        house.again()[3].append("told")
        self.assertEqual(asked(house), ahead)
        house.back()
        self.assertEqual(house.again(), ("start", "x", ("a",), [((1,), 1)]))
        self.assertEqual(asked(house), ahead)

    def test_the_told_count_may_be_changed(self):
        house = told(FOUR, [("start", "x", ("a",), [((1,), 1)])])
        ahead = copy.deepcopy(asked(house))
        house.whole()[2].clear()
        self.assertEqual(asked(house), ahead)
        house.do(("start", "y", ("a",), [((1,), 1)]))
        house.whole()[2].clear()
        self.assertEqual(house.whole(), ("count", ("a",), [((1,), 1)]))


class ByNames(unittest.TestCase):
    def hung_as(self, house):
        """What is told by names is what the lists of rooms and tallies tell by places."""
        names = house.rooms()
        rooms, tallies = [house.room(name) for name in names], [house.tally(name) for name in names]
        self.assertEqual(house.bars(), [(names[low], names[high], row) for low, high, row in bars(rooms, tallies)])
        self.is_paper(house, names, rooms)
        found = house.whole()
        word = whole(rooms, tallies)[0]
        self.assertEqual(found[0], word)
        if word == "bar":
            self.assertEqual(found, ("bar", *house.bars()[0]))
        elif word == "count":
            self.assertEqual(found[1], tuple(sorted({name for room in rooms for name in room})))
            self.assertTrue(is_whole(rooms, tallies, found[2]))
        else:
            self.assertTrue(good_paper(rooms, found))
        return word

    def is_paper(self, house, names, rooms):
        word, row = house.paper()
        if word == "order":
            self.assertTrue(all(isinstance(pair, tuple) for pair in row))
            row = [(names.index(name), names.index(other)) for name, other in row]
            with self.assertRaises(errors.Hangs) as caught:
                house.borne()
            self.assertIs(caught.exception.__class__, errors.Hangs)
        else:
            self.is_borne(house, names, rooms)
        self.assertTrue(good_paper(rooms, (word, row)))

    def is_borne(self, house, names, rooms):
        told_pairs = house.borne()
        self.assertIsInstance(told_pairs, list)
        self.assertTrue(all(isinstance(pair, tuple) for pair in told_pairs))
        self.assertEqual([name for name, rows in told_pairs], names)
        tallies = [rows for name, rows in told_pairs]
        self.assertTrue(any(tallies))
        self.assertEqual(bars(rooms, tallies), [])
        for answers in itertools.product(range(2), repeat=len(house.questions())):
            shares = [own_share(house.questions(), answers, room) for room in rooms]
            self.assertFalse(all(share in dict(rows) for share, rows in zip(shares, tallies)))

    def test_a_triangle(self):
        house = House(FOUR)
        words = []
        for name, room in TRIANGLE:
            house.do(("start", name, room, []))
            words.append(self.hung_as(house))
        house.do(("start", "d", ("d",), []))
        words.append(self.hung_as(house))
        self.assertEqual(words, ["count", "count", "allbut", "allbut"])
        self.assertEqual(house.whole(), ("allbut", ["a", "b", "c"]))
        house.do(("mark", "bc", (0, 1), 1))
        self.assertEqual(house.bars(), [("ab", "bc", (0,)), ("bc", "ac", (1,)), ("bc", "d", ())])
        self.assertEqual(house.whole(), ("bar", "ab", "bc", (0,)))
        self.assertEqual(house.paper(), ("allbut", ["a", "b", "c"]))
        house.do(("shut", "ab"))
        self.assertEqual(house.whole(), ("bar", "bc", "ac", (1,)))
        self.assertEqual(house.paper()[0], "order")
        self.hung_as(house)
        house.back()
        house.back()
        self.assertEqual(house.whole(), ("allbut", ["a", "b", "c"]))
        self.hung_as(house)
        house.do(("start", "all", SIX[:3], []))
        self.assertEqual(self.hung_as(house), "count")

    def test_bars_stand_in_the_order_of_rooms(self):
        house = told(("a",), [("start", name, ("a",), [((at,), 1)]) for at, name in enumerate("zmab")])
        wanted = [(low, high, (at,)) for at, low in enumerate("zmab") for high in "zmab"[at + 1:]]
        self.assertEqual(house.bars(), wanted)
        self.assertEqual(house.whole(), ("bar", "z", "m", (0,)))
        house.do(("shut", "z"))
        house.do(("start", "z", ("a",), [((0,), 1)]))
        self.assertEqual(house.whole(), ("bar", "m", "a", (1,)))
        self.assertEqual(house.bars()[-1], ("b", "z", (0,)))

    def test_a_ring(self):
        for many in (4, 5, 6):
            house = House(SIX)
            for at in range(many):
                house.do(("start", SIX[-at], tuple(sorted((SIX[at], SIX[(at + 1) % many]))), []))
            self.assertEqual(house.paper()[0], "ring")
            self.assertEqual(self.hung_as(house), "ring")

    def test_asked_twice_with_nothing_between(self):
        for deeds in ([], [("start", "x", ("a",), [((1,), 1)])],
                      [("start", name, room, [((1, 1), 1)]) for name, room in TRIANGLE]):
            house = told(FOUR, deeds)
            ahead = asked(house)
            self.assertEqual(asked(house), ahead)
            self.assertEqual(asked(house), ahead)

    def test_behind_any_deeds(self):
        chance = random.Random(14)
        words = []
        for turn in range(160):
            questions = SIX[:3 + turn % 4]
            house = House(questions)
            for step in range(30):
                deed = some_deed(chance, questions, ("p", "q", "r", "s", "t", "u"))
                # Half of the houses have empty rooms of two questions first, so that there are knots without a bar.
                if turn % 8 < 4 and step < 15:
                    if deed[0] not in ("start", "shut"):
                        continue
                    deed = ("start", deed[1], tuple(sorted(chance.sample(questions, 2))), [])
                try:
                    house.do(deed)
                except errors.RoomError:
                    pass
                if chance.random() < 0.1 and house.deeds():
                    house.back()
                words.append(self.hung_as(house))
        for word in ("bar", "count", "allbut", "ring"):
            self.assertGreater(words.count(word), 10, word)


class Disagreement(unittest.TestCase):
    def test_entering_and_withdrawing_leave_the_bars(self):
        chance = random.Random(12)
        told_bars = 0
        for turn in range(60):
            house = House(FOUR)
            for at in range(1 + turn % 8):
                room = tuple(name for name in FOUR if chance.random() < 0.6) or ("a",)
                rows = {tuple(chance.randrange(2) for name in room): chance.randrange(1, 4) for step in range(3)}
                house.do(("start", "abcdefgh"[at], room, tally_of(rows)))
            wanted = house.bars()
            told_bars += len(wanted)
            for step in range(30):
                row = tuple(chance.randrange(2) for name in FOUR)
                try:
                    house.do((chance.choice(("enter", "enter", "withdraw")), row, chance.choice((1, 2, MOST))))
                except errors.TooFew:
                    pass
                self.assertEqual(house.bars(), wanted)
        self.assertGreater(told_bars, 100)

    def test_a_mark_and_a_strike_change_them(self):
        house = told(FOUR, [("start", "x", ("a",), []), ("start", "y", ("b",), [])])
        house.do(("mark", "x", (1,), 1))
        self.assertEqual(house.bars(), [("x", "y", ())])
        house.do(("enter", (1, 1, 1, 1), 1))
        self.assertEqual(house.bars(), [("x", "y", ())])
        house.do(("strike", "x", (1,), 1))
        self.assertEqual(house.bars(), [])


ALL_KINDS = (
    ("start", "x", ("a", "b"), [((0, 0), 1), ((3, 4), MOST)]),
    ("start", "y", ("b", "c"), []),
    ("enter", (1, 2, 3, 4), 5),
    ("mark", "y", (9, 9), 2),
    ("withdraw", (1, 2, 3, 4), 1),
    ("strike", "y", (9, 9), 1),
    ("shut", "x"),
    ("start", "x", ("d",), [((7,), 7)]),
)


class BackAndAgain(HouseCase):
    def no_back(self, move):
        with self.assertRaises(errors.NoBack) as caught:
            move()
        self.assertIs(caught.exception.__class__, errors.NoBack)

    def test_a_new_house(self):
        house = House(FOUR)
        ahead = asked(house)
        self.no_back(house.back)
        self.no_back(house.again)
        self.assertEqual(asked(house), ahead)

    def test_down_to_nothing_and_up_again(self):
        house = House(FOUR)
        steps = [asked(house)]
        for many, deed in enumerate(ALL_KINDS, start=1):
            house.do(deed)
            steps.append(asked(house))
            self.assertEqual(house.deeds(), list(ALL_KINDS[:many]))
        for turn in range(2):
            self.no_back(house.again)
            for many in range(len(ALL_KINDS) - 1, -1, -1):
                self.assertEqual(house.back(), ALL_KINDS[many])
                self.assertEqual(asked(house), steps[many])
                self.assertEqual(house.deeds(), list(ALL_KINDS[:many]))
            self.no_back(house.back)
            self.assertEqual(asked(house), steps[0])
            for many in range(1, len(ALL_KINDS) + 1):
                self.assertEqual(house.again(), ALL_KINDS[many - 1])
                self.assertEqual(asked(house), steps[many])
            self.no_back(house.again)
            self.assertEqual(asked(house), steps[-1])

    def test_a_new_deed_lets_what_could_be_done_again_go(self):
        for many in range(1, len(ALL_KINDS)):
            house = told(FOUR, ALL_KINDS)
            for step in range(many):
                house.back()
            house.do(("enter", (0, 0, 0, 0), 1))
            ahead = asked(house)
            self.no_back(house.again)
            self.assertEqual(asked(house), ahead)
            self.assertEqual(house.deeds(), list(ALL_KINDS[:-many]) + [("enter", (0, 0, 0, 0), 1)])
            self.assertEqual(house.back(), ("enter", (0, 0, 0, 0), 1))
            self.assertEqual(house.deeds(), list(ALL_KINDS[:-many]))
            self.assertEqual(house.again(), ("enter", (0, 0, 0, 0), 1))
            self.no_back(house.again)

    def test_the_same_deed_done_anew_lets_go_too(self):
        house = told(FOUR, ALL_KINDS)
        house.back()
        house.back()
        house.do(ALL_KINDS[-2])
        self.no_back(house.again)

    def test_again_lets_nothing_else_go(self):
        house = told(FOUR, ALL_KINDS)
        for step in range(3):
            house.back()
        self.assertEqual([house.again(), house.back(), house.again(), house.again(), house.again()],
                         [ALL_KINDS[5], ALL_KINDS[5], ALL_KINDS[5], ALL_KINDS[6], ALL_KINDS[7]])
        self.assertEqual(asked(house), asked(told(FOUR, ALL_KINDS)))

    def test_a_refused_deed_is_not_kept_and_lets_nothing_go(self):
        house = told(FOUR, ALL_KINDS)
        house.back()
        house.back()
        for name, deed in (
            ("BadName", ("start", "", ("a",), [])), ("Taken", ("start", "x", ("a",), [])),
            ("BadRoom", ("start", "z", (), [])), ("BadTally", ("start", "z", ("a",), [((1,), 0)])),
            ("NoRoom", ("shut", "z")), ("BadRow", ("enter", (1,), 1)), ("BadCount", ("enter", (1, 1, 1, 1), 0)),
            ("NoRoom", ("mark", "z", (1,), 1)), ("BadRow", ("mark", "x", (1,), 1)),
            ("BadCount", ("mark", "x", (1, 1), 0)),
        ):
            self.refused(name, house, deed)
        self.refused("TooFew", house, ("withdraw", (0, 0, 0, 0), 9), row=(0, 0))
        self.refused("TooFew", house, ("strike", "x", (9, 9), 9), row=(9, 9))

    def test_a_refused_move_lets_nothing_go(self):
        house = told(FOUR, ALL_KINDS[:2])
        self.no_back(house.again)
        self.assertEqual(house.back(), ALL_KINDS[1])
        self.assertEqual(house.back(), ALL_KINDS[0])
        self.no_back(house.back)
        self.assertEqual([house.again(), house.again()], list(ALL_KINDS[:2]))

    def test_a_house_told_the_deeds_of_another_one(self):
        house = told(FOUR, ALL_KINDS)
        for many in range(len(ALL_KINDS), -1, -1):
            other = told(FOUR, house.deeds())
            self.assertEqual(asked(other), asked(house))
            self.no_back(other.again)
            self.assertEqual(walked(other), walked(told(FOUR, ALL_KINDS[:many])))
            if many:
                house.back()


class Twin(HouseCase):
    def test_like_it_in_all(self):
        for many in range(len(ALL_KINDS) + 1):
            house = told(FOUR, ALL_KINDS)
            for step in range(many):
                house.back()
            other = house.twin()
            self.assertIsInstance(other, House)
            self.assertIsNot(other, house)
            self.assertEqual(asked(other), asked(house))
            ahead = asked(house)
            steps = walked(other)
            self.assertEqual(asked(house), ahead)
            self.assertEqual(walked(house), steps)

    def test_each_goes_its_own_way(self):
        house = told(FOUR, ALL_KINDS)
        house.back()
        house.back()
        first, second, third = house.twin(), house.twin(), house.twin().twin()
        wanted = walked(house.twin())
        first.do(("mark", "x", (0, 0), 1))
        self.assertEqual(walked(second), wanted)
        self.assertEqual(walked(house.twin()), wanted)
        house.do(("shut", "y"))
        self.assertEqual(walked(second), wanted)
        self.assertEqual(walked(third), wanted)
        self.assertEqual(first.deeds(), list(ALL_KINDS[:6]) + [("mark", "x", (0, 0), 1)])
        self.assertEqual(first.rooms(), ["x", "y"])
        self.assertEqual(house.rooms(), ["x"])

    def test_a_move_in_the_one_is_none_in_the_other(self):
        house = told(FOUR, ALL_KINDS)
        house.back()
        house.back()
        for mover, other in ((house, house.twin()), (house.twin(), house)):
            for moves in ((mover.back,), (mover.again,), (mover.again, mover.again, mover.back), (mover.back,) * 3):
                wanted, ahead = walked(other.twin()), walked(mover.twin())
                for move in moves:
                    move()
                self.assertEqual(walked(other.twin()), wanted)
                self.assertEqual(walked(other), wanted)
                while len(mover.deeds()) < len(ALL_KINDS) - 2:
                    mover.again()
                while len(mover.deeds()) > len(ALL_KINDS) - 2:
                    mover.back()
                self.assertEqual(walked(mover), ahead)

    def test_of_a_house_without_deeds(self):
        house = House(("q",))
        other = house.twin()
        other.do(("start", "x", ("q",), []))
        self.assertEqual((house.rooms(), house.deeds()), ([], []))
        self.assertEqual(other.rooms(), ["x"])
        self.assertEqual(house.twin().questions(), ("q",))


class AnyDeeds(HouseCase):
    """Long runs beside a house that is reckoned here."""

    def step(self, chance, house, own, past, ahead):
        """One deed, or a move back or again, in both houses."""
        turn = chance.random()
        if turn < 0.12:
            return self.move(house.back, past, ahead, own)
        if turn < 0.2:
            return self.move(house.again, ahead, past, own)
        deed = some_deed(chance, own.questions, ("p", "q", "r", "s", "t", "u", "v", "w", "x"))
        if deed[0] in ("mark", "strike") and own.find(deed[1]) and chance.random() < 0.9:
            deed = (deed[0], deed[1], some_row(chance, own.find(deed[1])[1]), deed[3])
        kept, ahead_of_it = copy.deepcopy(deed), copy.deepcopy(own.rooms)
        fault, row = own.do(deed)
        if fault:
            with self.assertRaises(getattr(errors, fault)) as caught:
                house.do(deed)
            self.assertIs(caught.exception.__class__, getattr(errors, fault))
            if fault == "TooFew":
                self.assertEqual(caught.exception.row, row)
        else:
            self.assertIsNone(house.do(deed))
            past.append((kept, ahead_of_it))
            ahead.clear()
        self.assertEqual(deed, kept)
        return fault or deed[0]

    def move(self, work, of, to, own):
        if not of:
            self.assertRaises(errors.NoBack, work)
            return "NoBack"
        deed, rooms = of.pop()
        to.append((deed, own.rooms))
        own.rooms = copy.deepcopy(rooms)
        self.assertEqual(work(), deed)
        return "moved"

    def test_beside_a_house_reckoned_here(self):
        seen = {}
        for turn in range(60):
            chance = random.Random(turn)
            questions = SIX[:1 + turn % 6]
            house, own, past, ahead = House(questions), Own(questions), [], []
            for step in range(120):
                word = self.step(chance, house, own, past, ahead)
                seen[word] = seen.get(word, 0) + 1
                self.assertEqual(state(house), own.state())
                self.assertEqual(house.deeds(), [deed for deed, rooms in past])
        wanted = {"start", "shut", "enter", "withdraw", "mark", "strike", "moved", "NoBack", "BadName", "Taken",
                  "BadRoom", "BadTally", "Full", "NoRoom", "BadRow", "BadCount", "TooFew"}
        self.assertEqual(set(seen), wanted)


class CountsEntered(unittest.TestCase):
    def test_the_rows_of_a_whole_count_entered_as_papers(self):
        chance = random.Random(13)
        shapes = ([("a", "b"), ("b", "c"), ("c", "d")], [("a",), ("b",), ("c", "d")], [FOUR, ("a", "c"), ("d",)],
                  [("b", "d"), ("a", "d"), ("c", "d"), ("d",), ("b", "d")])
        for turn in range(40):
            rooms = shapes[turn % 4]
            papers = {tuple(chance.randrange(3) for name in FOUR): chance.randrange(1, MOST) for step in range(turn)}
            house = House(FOUR)
            for at, room in enumerate(rooms):
                house.do(("start", "pqrst"[at], room, []))
            filled = told(FOUR, house.deeds() + [("enter", row, count) for row, count in papers.items()])
            word, room, rows = filled.whole()
            self.assertEqual((word, room), ("count", FOUR))
            # One row's count may be higher than may be entered at once.
            steps = [(row, min(MOST, count - done)) for row, count in rows for done in range(0, count, MOST)]
            for row, count in steps:
                house.do(("enter", row, count))
            self.assertEqual(state(house), state(filled))
            for row, count in steps:
                house.do(("withdraw", row, count))
            self.assertEqual([house.tally(name) for name in house.rooms()], [[]] * len(rooms))


if __name__ == "__main__":
    unittest.main()
