"""The desk and its answers: promises [1] and [16]."""

import random
import unittest

from roomtally.desk import Desk
from roomtally.errors import BadRoom, Hangs, NoBack
from roomtally.house import House
from roomtally.notes import deed_text, page_text, read_deed

MOST = 10 ** 12
SIX = ("a", "b", "c", "d", "e", "f")
THREE = SIX[:3]


def asked(house):
    """All that can be asked of a house."""
    names = house.rooms()
    try:
        borne = house.borne()
    except Hangs:
        borne = "hangs"
    return (
        house.questions(), names, [house.room(name) for name in names], [house.tally(name) for name in names],
        house.bars(), house.whole(), house.paper(), borne, house.deeds(),
    )


def undone(house):
    """The deeds that can be done again."""
    found = []
    while True:
        try:
            found.append(house.again())
        except NoBack:
            return found


def held(desk):
    """All that can be asked of the desk's house, and what can be done again in it."""
    return (asked(desk.house()), undone(desk.house()))


class DeskCase(unittest.TestCase):
    def says(self, desk, *talk):
        """Each line gets its answer."""
        for line, wanted in talk:
            with self.subTest(line):
                found = desk.say(line)
                self.assertIsInstance(found, str)
                self.assertEqual(found, wanted)

    def stays(self, desk, *talk):
        """Each line gets its answer, and the house stays as it was."""
        ahead = held(desk)
        for line, wanted in talk:
            self.says(desk, (line, wanted))
            self.assertEqual(held(desk), ahead, line)

    def desk(self, questions, *lines):
        desk = Desk(questions)
        for line in lines:
            self.assertEqual(desk.say(line), "done", line)
        return desk


class Questions(DeskCase):
    def test_bad_rooms(self):
        for questions in ((), SIX + ("g",), ("b", "a"), ("a", "a"), ("",), ("A",), ("ninesigns",)):
            with self.subTest(questions), self.assertRaises(BadRoom) as caught:
                Desk(questions)
            self.assertIs(caught.exception.__class__, BadRoom)

    def test_a_new_desk(self):
        for many in range(1, 7):
            desk = Desk(SIX[:many])
            self.assertEqual(desk.house().questions(), SIX[:many])
            self.assertEqual(held(desk), held(Desk(SIX[:many])))
            self.assertEqual(desk.house().deeds(), [])


class Answers(DeskCase):
    def test_without_rooms(self):
        self.stays(
            Desk(THREE), ("rooms", "none"), ("bars", "none"), ("whole", "count"), ("back", "refused noback"),
            ("again", "refused noback"), ("tally x", "refused noroom"), ("shut x", "refused noroom"),
        )

    def test_deeds_of_all_kinds(self):
        lines = ("start x a+b 0.0=1 3.4=1000000000000", "start y b+c none", "enter 1.2.3 5", "mark y 9.9 2",
                 "withdraw 1.2.3 1", "strike y 9.9 1", "shut x", "start x c 7=7")
        desk = Desk(THREE)
        house = House(THREE)
        for line in lines:
            self.says(desk, (line, "done"))
            house.do(read_deed(line))
            self.assertEqual(asked(desk.house()), asked(house))

    def test_back_and_again(self):
        lines = ["start x a+b 0.0=1 3.4=1000000000000", "start y b none", "enter 1.2.3 5", "shut x", "mark y 9 2"]
        desk = self.desk(THREE, *lines)
        self.stays(desk, ("again", "refused noback"))
        for turn in range(2):
            self.says(desk, *[("back", line) for line in reversed(lines)])
            self.stays(desk, ("back", "refused noback"))
            self.assertEqual(desk.house().deeds(), [])
            self.says(desk, *[("again", line) for line in lines])
            self.stays(desk, ("again", "refused noback"))
        self.says(desk, ("back", lines[4]), ("back", lines[3]), ("again", lines[3]), ("enter 0.0.0 1", "done"))
        self.stays(desk, ("again", "refused noback"))
        self.says(desk, ("back", "enter 0.0.0 1"), ("back", "shut x"), ("rooms", "x a+b, y b"))

    def test_rooms(self):
        desk = self.desk(SIX, "start zoo a+c none")
        self.stays(desk, ("rooms", "zoo a+c"))
        self.says(desk, ("start a a+b+c+d+e+f none", "done"), ("start m f 1=1", "done"))
        self.stays(desk, ("rooms", "zoo a+c, a a+b+c+d+e+f, m f"))
        self.says(desk, ("shut zoo", "done"), ("rooms", "a a+b+c+d+e+f, m f"))
        self.says(desk, ("start zoo b none", "done"), ("rooms", "a a+b+c+d+e+f, m f, zoo b"))

    def test_tallies(self):
        desk = self.desk(THREE, "start x a+b 0.0=1 3.4=1000000000000", "start y c none")
        self.stays(desk, ("tally x", "0.0=1 3.4=1000000000000"), ("tally y", "none"), ("tally z", "refused noroom"))
        self.says(desk, ("enter 3.4.5 7", "done"), ("tally x", "0.0=1 3.4=1000000000007"), ("tally y", "5=7"))

    def test_counts_of_more_figures_than_can_be_read(self):
        desk = self.desk(THREE, *["start x a 1=1000000000000"] + ["enter 1.1.1 1000000000000"] * 9)
        self.stays(desk, ("tally x", "1=10000000000000"))
        self.says(desk, ("mark x 1 999999999999", "done"))
        self.stays(desk, ("tally x", "1=10999999999999"))

    def test_bars(self):
        desk = self.desk(THREE, "start z a+b 0.0=1", "start y b+c 0.0=1", "start x a+c 0.0=1", "start w a 0=1")
        self.stays(desk, ("bars", "none"))
        self.says(desk, ("mark y 3.4 1", "done"))
        self.stays(desk, ("bars", "z y 3, y x 4, y w -"))
        self.says(desk, ("shut z", "done"), ("shut x", "done"))
        self.stays(desk, ("bars", "y w -"))
        self.says(desk, ("start v b+c none", "done"))
        self.stays(desk, ("bars", "y w -, y v 0.0, w v -"))

    def test_whole(self):
        desk = self.desk(THREE, "start z a+b 0.0=1", "start y b+c 0.0=1")
        self.stays(desk, ("whole", "count"))
        self.says(desk, ("start x a+c 0.0=1", "done"))
        self.stays(desk, ("whole", "knot"))
        self.says(desk, ("mark x 0.0 1", "done"))
        self.stays(desk, ("whole", "bar"))
        self.says(desk, ("back", "mark x 0.0 1"), ("whole", "knot"), ("start w a+b+c 0.0.0=1", "done"))
        self.stays(desk, ("whole", "count"))

    def test_a_ring_is_a_knot(self):
        desk = self.desk(SIX, "start p a+b none", "start q b+c none", "start r c+d none")
        self.stays(desk, ("whole", "count"))
        self.says(desk, ("start s a+d none", "done"))
        self.stays(desk, ("whole", "knot"))

    def test_names_like_words(self):
        desk = self.desk(("back", "tally"), "start rooms tally none", "start none back none", "start tally back none")
        self.stays(desk, ("rooms", "rooms tally, none back, tally back"), ("tally tally", "none"), ("tally back",
                   "refused noroom"), ("tally rooms", "none"))


class Refused(DeskCase):
    def test_each_class_that_a_line_can_meet(self):
        desk = self.desk(THREE, "start x a+b 0.0=1", "mark x 1.1 4", "shut x")
        self.says(desk, ("back", "shut x"))
        self.stays(
            desk,
            ("start x a none", "refused taken"),
            ("start y - none", "refused badroom"),
            ("start y d none", "refused badroom"),
            ("start y a+d none", "refused badroom"),
            ("start y a 1=1000000000001", "refused badtally"),
            ("shut y", "refused noroom"),
            ("enter 1 1", "refused badrow"),
            ("enter - 1", "refused badrow"),
            ("enter 1.1.1.1 1", "refused badrow"),
            ("enter 1.1.1 0", "refused badcount"),
            ("enter 1.1.1 1000000000001", "refused badcount"),
            ("enter 1.1 0", "refused badrow"),
            ("withdraw 1 1", "refused badrow"),
            ("withdraw 1.1.1 0", "refused badcount"),
            ("withdraw 1.1.1 5", "refused toofew"),
            ("mark y 1 0", "refused noroom"),
            ("mark x 1 0", "refused badrow"),
            ("mark x 1.1 0", "refused badcount"),
            ("strike y 1 0", "refused noroom"),
            ("strike x 1 0", "refused badrow"),
            ("strike x 1.1 9999999999999", "refused badcount"),
            ("strike x 1.1 5", "refused toofew"),
            ("tally y", "refused noroom"),
        )
        self.says(desk, ("again", "shut x"))

    def test_full(self):
        desk = self.desk(THREE, *[f"start {name} a none" for name in "abcdefgh"])
        self.stays(desk, ("start i a none", "refused full"), ("start a a none", "refused taken"),
                   ("start i d none", "refused badroom"))

    def test_no_back(self):
        desk = self.desk(THREE, "enter 1.1.1 1")
        self.stays(desk, ("again", "refused noback"))
        self.says(desk, ("back", "enter 1.1.1 1"))
        self.stays(desk, ("back", "refused noback"))


class NoLine(DeskCase):
    def test_every_other_line(self):
        desk = self.desk(THREE, "start x a+b 0.0=1", "mark x 1.1 4")
        self.says(desk, ("back", "mark x 1.1 4"))
        lines = (
            "", " ", "\n", "x", "no line", "done", "none", "start", "shut", "enter", "tally", "tally ", "tally X",
            "tally ninesigns", "tally x y", "tally  x", " tally x", "tally x ", "tally x\n", "tally -", "tally x1",
            "Tally x", "tallyx", "back ", " back", "back back", "back 1", "Back", "BACK", "back\n", "backs", "again ",
            " again", "again x", "Again", "again\n", "rooms ", " rooms", "rooms x", "room", "room x", "Rooms",
            "rooms\n", "bars ", " bars", "bars x", "bar", "Bars", "bars\n", "whole ", " whole", "whole x", "Whole",
            "whole\n",
            "paper", "borne", "deeds", "questions", "questions a", "twin", "house", "shut x ", " shut x", "shut  x",
            "shut X", "shut x\n", "start x a", "start y a 1=0", "start y b+a none", "start Y a none", "start y a 1=01",
            "start y a+b 1=1", "enter 1.1.1 01", "enter 1.1.1 10000000000000", "enter 1.1.10 1", "enter 1.1.1 -1",
            "enter 1.1.1.1.1.1.1 1", "withdraw 1.1.1", "mark x 1.1", "strike x 1.1 1 1", "refused toofew", "back\nback",
        )
        self.stays(desk, *[(line, "no line") for line in lines])
        self.says(desk, ("again", "mark x 1.1 4"))


class Houses(DeskCase):
    def test_a_told_house_may_be_changed(self):
        desk = self.desk(THREE, "start x a+b 0.0=1", "mark x 1.1 4", "shut x")
        self.says(desk, ("back", "shut x"))
        ahead = held(desk)
        house = desk.house()
        self.assertIsInstance(house, House)
        self.assertEqual((asked(house), undone(house.twin())), ahead)
        house.do(("start", "y", ("c",), []))
        house.back()
        house.back()
        house.tally("x").clear()
        self.assertEqual(held(desk), ahead)
        self.says(desk, ("again", "shut x"))
        self.assertEqual(house.rooms(), ["x"])

    def test_a_told_house_stays_where_the_desk_goes_on(self):
        desk = self.desk(THREE, "start x a none")
        house = desk.house()
        self.says(desk, ("shut x", "done"))
        self.assertEqual(house.rooms(), ["x"])

    def test_two_desks_beside_each_other(self):
        first, second = Desk(THREE), Desk(THREE)
        self.says(first, ("start x a 1=1", "done"))
        self.says(second, ("rooms", "none"), ("back", "refused noback"), ("start x b none", "done"))
        self.says(first, ("rooms", "x a"), ("back", "start x a 1=1"), ("rooms", "none"))
        self.says(second, ("rooms", "x b"), ("again", "refused noback"))
        self.says(first, ("again", "start x a 1=1"))

    def test_the_page_of_a_house_said_line_by_line(self):
        chance = random.Random(16)
        for turn in range(30):
            house = House(THREE)
            for at, name in enumerate("pqr"):
                house.do(("start", name, (THREE[at],), [((turn % 10,), 1 + turn)]))
            for step in range(20):
                house.do(("enter", tuple(chance.randrange(3) for asking in THREE), chance.randrange(1, MOST)))
            desk = Desk(THREE)
            for line in page_text(house).split("\n")[1:-1]:
                self.assertEqual(desk.say(line), "done")
            self.assertEqual(asked(desk.house()), asked(house))
            self.assertEqual(desk.say("back"), deed_text(house.back()))


if __name__ == "__main__":
    unittest.main()
