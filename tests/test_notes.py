"""Texts of rooms, rows, tallies, deeds and pages: promises [1], [14] and [15]."""

import copy
import random
import unittest

from roomtally.errors import BadText, Hangs, NoBack
from roomtally.house import House
from roomtally.notes import deed_text, page_text, read_deed, read_page, room_text, row_text, tally_text

MOST = 10 ** 12
NINES = 9999999999999
SIX = ("a", "b", "c", "d", "e", "f")
FOUR = SIX[:4]

WRITTEN = (
    (("start", "x", ("a",), []), "start x a none"),
    (("start", "abcdefgh", ("ab", "b", "cde"), []), "start abcdefgh ab+b+cde none"),
    (("start", "x", (), []), "start x - none"),
    (("start", "x", (), [((), 7)]), "start x - -=7"),
    (("start", "x", SIX, [((0, 1, 2, 3, 4, 9), 1)]), "start x a+b+c+d+e+f 0.1.2.3.4.9=1"),
    (("start", "x", ("a", "b"), [((0, 9), 1), ((1, 0), NINES), ((1, 1), MOST)]),
     "start x a+b 0.9=1 1.0=9999999999999 1.1=1000000000000"),
    (("start", "none", ("start",), [((5,), 10)]), "start none start 5=10"),
    (("shut", "x"), "shut x"),
    (("shut", "shut"), "shut shut"),
    (("enter", (1, 2, 3), 1), "enter 1.2.3 1"),
    (("enter", (), 0), "enter - 0"),
    (("enter", (0,), NINES), "enter 0 9999999999999"),
    (("enter", (0, 0, 0, 0, 0, 0), MOST), "enter 0.0.0.0.0.0 1000000000000"),
    (("withdraw", (9, 8), 10), "withdraw 9.8 10"),
    (("withdraw", (), NINES), "withdraw - 9999999999999"),
    (("mark", "x", (3,), 0), "mark x 3 0"),
    (("mark", "x", (), 1), "mark x - 1"),
    (("mark", "enter", (1, 1, 1, 1, 1, 1), MOST), "mark enter 1.1.1.1.1.1 1000000000000"),
    (("strike", "x", (3, 4), 100), "strike x 3.4 100"),
    (("strike", "z", (), NINES), "strike z - 9999999999999"),
)

NO_DEEDS = (
    # No word of a deed, and words too few or too many.
    "", " ", "  ", "start", "shut", "enter", "withdraw", "mark", "strike", "none", "-", "x", "back", "again", "rooms",
    "bars", "whole", "tally x", "questions a", "Shut x", "SHUT x", "shuts x", "shu x", "open x", "done",
    "start x", "start x a", "start x a none none", "start x a none 1=1", "start x a 1=1 none", "start none",
    "shut x y", "shut x none", "enter 1", "enter 1 1 1", "enter x 1 1", "withdraw 1", "withdraw 1 1 1",
    "withdraw x 1 1", "mark x 1", "mark 1 1", "mark x 1 1 1", "strike x 1", "strike 1 1", "strike x 1 1 1",
    # Blanks and line feeds.
    " shut x", "shut x ", "shut  x", "shut x\n", "\nshut x", "shut\nx", "shut x\nshut x", "enter 1  1", "enter 1 1 ",
    " enter 1 1", "enter 1 1\n", "enter 1\n 1", "mark  x 1 1", "mark x 1 1 ", "start x a none ", "start x a  none",
    "start  x a none", " start x a none", "start x a none\n", "start x a 1=1  2=1", "start x a 1=1 ", "start x a ",
    "start x a 1=1\n2=1", "start x  1=1",
    # Names.
    "shut ninesigns", "shut X", "shut x1", "shut -", "shut x+y", "shut xY", "shut x.", "mark X 1 1",
    "mark ninesigns 1 1", "strike 1 1 1", "strike - 1 1", "strike x_ 1 1", "start X a none",
    "start ninesigns a none", "start x+y a none", "start 1 a none", "start - a none",
    # Rooms.
    "start x b+a none", "start x a+a none", "start x a+c+b none", "start x a++b none", "start x +a none",
    "start x a+ none", "start x + none", "start x -- none", "start x a+- none", "start x -+a none", "start x A none",
    "start x a+ninesigns none", "start x a+b+c+d+e+f+g none", "start x a.b none", "start x a,b none", "start x 1 none",
    "start x a-b none", "start x () none",
    # Rows.
    "enter 10 1", "enter 1.10 1", "enter 1.1.1.1.1.1.1 1", "enter .1 1", "enter 1. 1", "enter 1..1 1", "enter . 1",
    "enter -- 1", "enter -1 1", "enter 1.-1 1", "enter +1 1", "enter 01 1", "enter 1.01 1", "enter a 1", "enter 1.a 1",
    "enter 1+1 1", "enter 1,1 1", "enter 1.- 1", "enter none 1", "enter / 1", "enter : 1", "enter 1=1 1",
    "withdraw 10 1", "withdraw 0.0.0.0.0.0.0 1", "withdraw 1.. 1", "mark x 10 1", "mark x 1.1.1.1.1.1.1 1",
    "mark x 1. 1", "mark x y 1", "strike x 12 1", "strike x 1.1.1.1.1.1.1 1", "strike x .. 1",
    # Numbers.
    "enter 1 01", "enter 1 00", "enter 1 10000000000000", "enter 1 99999999999999", "enter 1 00000000000001",
    "enter 1 +1", "enter 1 -1", "enter 1 -0", "enter 1 1.0", "enter 1 1_000", "enter 1 1,000", "enter 1 x", "enter 1 -",
    "enter 1 none", "enter 1 0x1", "enter 1 1e3", "enter 1 /", "enter 1 :", "withdraw 1 01",
    "withdraw 1 10000000000000", "withdraw 1 -1", "withdraw 1 ", "mark x 1 01", "mark x 1 +1",
    "mark x 1 10000000000000", "strike x 1 -1", "strike x 1 007", "strike x 1 1x",
    # Tallies.
    "start x a 1", "start x a 1=", "start x a =1", "start x a =", "start x a 1=1=1", "start x a 1==1", "start x a 1=0",
    "start x a 1=1 2=0", "start x a 1=01", "start x a 1=-1", "start x a 1=+1", "start x a 1=10000000000000",
    "start x a 10=1", "start x a 1=1 1=1", "start x a 2=1 1=1", "start x a 1=1 3=1 2=1", "start x a 1.1=1",
    "start x a -=1", "start x a+b 1=1", "start x a+b 1.1=1 1=1", "start x a+b 1.2=1 1.1=1", "start x a+b 1.1.1=1",
    "start x - 1=1", "start x - -=0", "start x - -=1 -=1", "start x - none none", "start x a None", "start x a NONE",
    "start x a 1:1", "start x a none=1", "start x a x=1", "start x a 1=x", "start x a 1=1,2=1", "start x a 1=1, 2=1",
)


def asked(house):
    """All that can be asked of a house."""
    names = house.rooms()
    try:
        borne = house.borne()
    except Hangs:
        borne = "hangs"
    return (
        house.questions(), names, [house.room(name) for name in names], [house.tally(name) for name in names],
        house.bars(), house.whole(), house.paper(), borne, house.deeds(),
    )


def told(questions, deeds):
    house = House(questions)
    for deed in deeds:
        house.do(deed)
    return house


class Written(unittest.TestCase):
    def test_rooms(self):
        self.assertEqual(room_text(()), "-")
        self.assertEqual(room_text(("a",)), "a")
        self.assertEqual(room_text(("ab", "abcdefgh", "c")), "ab+abcdefgh+c")
        self.assertEqual(room_text(SIX), "a+b+c+d+e+f")

    def test_rows(self):
        self.assertEqual(row_text(()), "-")
        self.assertEqual(row_text((0,)), "0")
        self.assertEqual(row_text((9, 0)), "9.0")
        self.assertEqual(row_text((0, 1, 2, 3, 4, 5)), "0.1.2.3.4.5")

    def test_tallies(self):
        rows = [((0, 1), 1), ((0, 2), MOST), ((9, 9), NINES)]
        kept = list(rows)
        self.assertEqual(tally_text([]), "none")
        self.assertEqual(tally_text([((), 4)]), "-=4")
        self.assertEqual(tally_text([((3,), 10)]), "3=10")
        self.assertEqual(tally_text(rows), "0.1=1 0.2=1000000000000 9.9=9999999999999")
        self.assertEqual(rows, kept)

    def test_counts_in_as_many_figures_as_they_have(self):
        self.assertEqual(tally_text([((3,), 10 ** 20)]), "3=100000000000000000000")

    def test_deeds(self):
        for deed, line in WRITTEN:
            with self.subTest(line):
                kept = copy.deepcopy(deed)
                self.assertEqual(deed_text(deed), line)
                self.assertEqual(deed, kept)


class ReadDeed(unittest.TestCase):
    def same_kinds(self, found, wanted):
        """Equal, and tuples, lists, texts and numbers in the same places."""
        self.assertEqual(found, wanted)
        self.assertIs(found.__class__, wanted.__class__)
        if isinstance(wanted, (tuple, list)):
            for thing, other in zip(found, wanted):
                self.same_kinds(thing, other)

    def refused(self, line):
        with self.subTest(line):
            with self.assertRaises(BadText) as caught:
                read_deed(line)
            self.assertIs(caught.exception.__class__, BadText)
            self.assertEqual(caught.exception.at, 0)

    def test_what_was_written(self):
        for deed, line in WRITTEN:
            with self.subTest(line):
                self.same_kinds(read_deed(line), deed)

    def test_told_lists_may_be_changed(self):
        for line in ("start x a none", "start x a 1=1"):
            found = read_deed(line)
            wanted = copy.deepcopy(found)
            found[3].append("told")
            self.assertEqual(read_deed(line), wanted)

    def test_numbers(self):
        for number in (0, 1, 9, 10, 19, 100, MOST - 1, MOST, MOST + 1, NINES):
            self.assertEqual(read_deed(f"enter 1 {number}"), ("enter", (1,), number))
            if number:
                self.assertEqual(read_deed(f"start x a 1={number}"), ("start", "x", ("a",), [((1,), number)]))

    def test_what_a_house_would_refuse_is_not_asked(self):
        for line in ("start x - none", "start x zz 1=9999999999999", "enter - 0", "mark nobody 1.2.3.4.5.6 0"):
            self.assertEqual(deed_text(read_deed(line)), line)

    def test_any_other_text(self):
        for line in NO_DEEDS:
            self.refused(line)

    def test_each_sign_put_in_or_left_out(self):
        """Just what is so written is read: what is read of a spoilt line is written as that line."""
        signs = [chr(code) for code in range(32, 127) if chr(code) != "%"] + ["\n"]
        read = refused = 0
        for line in ("start xy a+bc 1.0=10 2.9=1", "enter 1.0 20", "mark x - 0", "shut ab", "start x - none"):
            spoilt = [line[:at] + sign + line[at:] for at in range(len(line) + 1) for sign in signs]
            spoilt += [line[:at] + sign + line[at + 1:] for at in range(len(line)) for sign in signs]
            spoilt += [line[:at] + line[at + 1:] for at in range(len(line))]
            for other in spoilt:
                try:
                    deed = read_deed(other)
                except BadText as refusal:
                    self.assertEqual(refusal.at, 0)
                    refused += 1
                else:
                    self.assertEqual(deed_text(deed), other)
                    read += 1
        self.assertGreater(read, 100)
        self.assertGreater(refused, 5000)

    def test_any_deeds(self):
        chance = random.Random(14)
        for turn in range(500):
            word = chance.choice(("start", "shut", "enter", "withdraw", "mark", "strike"))
            name = "".join(chance.choice("abcxyz") for step in range(chance.randrange(1, 9)))
            room = tuple(asking for asking in SIX if chance.random() < 0.5)
            rows = sorted({tuple(chance.randrange(10) for asking in room) for step in range(chance.randrange(6))})
            row = tuple(chance.randrange(10) for asking in room)
            number = chance.randrange(10 ** chance.randrange(1, 14))
            deed = {
                "start": (word, name, room, [(row, chance.randrange(1, 10 ** 13)) for row in rows]),
                "shut": (word, name), "enter": (word, row, number), "withdraw": (word, row, number),
                "mark": (word, name, row, number), "strike": (word, name, row, number),
            }[word]
            self.same_kinds(read_deed(deed_text(deed)), deed)


ALL_KINDS = (
    ("start", "x", ("a", "b"), [((0, 0), 1), ((3, 4), MOST)]),
    ("start", "y", ("b", "c"), []),
    ("enter", (1, 2, 3, 4), 5),
    ("mark", "y", (9, 9), 2),
    ("withdraw", (1, 2, 3, 4), 1),
    ("strike", "y", (9, 9), 1),
    ("shut", "x"),
    ("start", "x", ("d",), [((7,), 7)]),
)
PAGE = (
    "questions a+b+c+d\n"
    "start x a+b 0.0=1 3.4=1000000000000\n"
    "start y b+c none\n"
    "enter 1.2.3.4 5\n"
    "mark y 9.9 2\n"
    "withdraw 1.2.3.4 1\n"
    "strike y 9.9 1\n"
    "shut x\n"
    "start x d 7=7\n"
)
LINES = PAGE.split("\n")[:-1]


class Pages(unittest.TestCase):
    def refused(self, at, text):
        with self.subTest(text):
            with self.assertRaises(BadText) as caught:
                read_page(text)
            self.assertIs(caught.exception.__class__, BadText)
            self.assertEqual(caught.exception.at, at)

    def refused_lines(self, at, lines):
        self.refused(at, "".join(line + "\n" for line in lines))

    def like(self, house, text):
        found = read_page(text)
        self.assertIsInstance(found, House)
        self.assertEqual(asked(found), asked(house))
        self.assertRaises(NoBack, found.again)
        self.assertEqual(page_text(found), text)
        self.assertEqual(read_page(text).deeds(), house.deeds())

    def test_a_house_without_deeds(self):
        for many in range(1, 7):
            house = House(SIX[:many])
            text = "questions " + "+".join(SIX[:many]) + "\n"
            self.assertEqual(page_text(house), text)
            self.like(house, text)

    def test_deeds_of_all_kinds(self):
        for many in range(len(ALL_KINDS) + 1):
            house = told(FOUR, ALL_KINDS[:many])
            text = "".join(line + "\n" for line in LINES[:many + 1])
            self.assertEqual(page_text(house), text)
            self.like(house, text)

    def test_what_was_taken_back_is_not_written(self):
        house = told(FOUR, ALL_KINDS)
        for many in range(len(ALL_KINDS) - 1, -1, -1):
            house.back()
            text = page_text(house)
            self.assertEqual(text, "".join(line + "\n" for line in LINES[:many + 1]))
            self.like(house, text)

    def test_writing_changes_nothing(self):
        house = told(FOUR, ALL_KINDS)
        house.back()
        ahead = asked(house)
        page_text(house)
        self.assertEqual(asked(house), ahead)
        self.assertEqual(house.again(), ALL_KINDS[-1])

    def test_houses_that_are_read_go_their_own_way(self):
        first, second = read_page(PAGE), read_page(PAGE)
        first.do(("shut", "x"))
        self.assertEqual(asked(second), asked(told(FOUR, ALL_KINDS)))

    def test_what_is_read_can_be_taken_back(self):
        house = read_page(PAGE)
        self.assertEqual([house.back() for deed in ALL_KINDS], list(ALL_KINDS[::-1]))
        self.assertRaises(NoBack, house.back)

    def test_the_text_without_signs(self):
        self.refused(0, "")

    def test_line_feeds_alone(self):
        self.refused(0, "\n")
        self.refused(0, "\n\n\n")
        self.refused(0, "\n" + PAGE)

    def test_the_first_line_spoilt(self):
        for line in (
            "questions", "questions ", "questions -", "questions a+b+c+d+e+f+g", "questions b+a", "questions a+a",
            "questions A", "questions a b", "questions a ", " questions a", "questions  a", "question a", "Questions a",
            "rooms a", "a", "-", "questions a+", "questions ninesigns", "questions 1", "questions x.y", "shut x",
            "enter 1.2.3.4 1", "questions a+b+c+d questions",
        ):
            self.refused(0, line)
            self.refused_lines(0, [line])
            self.refused_lines(0, [line] + LINES[1:])
            self.refused_lines(0, [line, "no deed"])

    def test_the_last_line_feed_missing(self):
        self.refused(0, "questions a")
        self.refused(len(ALL_KINDS), PAGE[:-1])
        for many in range(1, len(LINES) + 1):
            self.refused(many - 1, "\n".join(LINES[:many]))

    def test_a_spoilt_last_line_without_its_line_feed(self):
        self.refused(len(LINES), PAGE + "x")
        self.refused(len(LINES), PAGE + " ")
        self.refused(len(LINES), PAGE + "shut nobody")
        self.refused(len(LINES), PAGE + "shut x")

    def test_a_fault_ahead_of_a_missing_line_feed_goes_first(self):
        self.refused(0, "questions -\nshut x")
        self.refused(1, "questions a\nshut x\nstart x a none")
        self.refused(2, "questions a\nstart x a none\nno deed\nshut x")

    def test_one_more_line_feed(self):
        self.refused(len(LINES), PAGE + "\n")
        self.refused(len(LINES), PAGE + "\n\n")
        for at in range(len(LINES) + 1):
            self.refused_lines(at, LINES[:at] + [""] + LINES[at:])

    def test_a_line_that_writes_no_deed(self):
        for line in (
            "", " ", "x", "done", "back", "questions a+b+c+d", "shut x ", " shut x", "shut  x", "enter 1.2.3.4 01",
            "enter 1.2.3.4 10000000000000", "enter 1.2.3.10 1", "start z a 1=0", "start z b+a none", "start z a",
        ):
            for at in range(1, len(LINES) + 1):
                self.refused_lines(at, LINES[:at] + [line] + LINES[at:])
                self.refused_lines(at, LINES[:at] + [line] + LINES[at + 1:])

    def test_a_deed_that_the_house_refuses(self):
        for line in (
            "start y a none", "start z - none", "start z e none", "start z a 1=1000000000001", "shut z", "enter 1 1",
            "enter - 1", "enter 1.2.3.4 0", "enter 1.2.3.4 1000000000001", "withdraw 1.2.3.4 9", "withdraw 9.9.8.9 1",
            "mark z 1 1", "mark y 1 1", "mark y 1.1 0", "strike z 1 1", "strike y 1.1.1 1", "strike y 1.1 0",
            "strike y 1.1 1",
        ):
            for at in range(3, len(LINES) + 1):
                self.refused_lines(at, LINES[:at] + [line] + LINES[at:])
        full = ["questions a"] + [f"start {name} a none" for name in "abcdefgh"]
        self.refused_lines(9, full + ["start i a none"])
        self.refused_lines(9, full + ["start i a none", "no deed"])

    def test_a_line_left_out(self):
        self.refused_lines(0, LINES[1:])
        # The room that is never started is missed where it is shut.
        self.refused_lines(6, LINES[:1] + LINES[2:])
        self.refused_lines(3, LINES[:2] + LINES[3:])
        self.refused_lines(4, LINES[:3] + LINES[4:])
        self.refused_lines(5, LINES[:4] + LINES[5:])
        self.refused_lines(7, LINES[:7] + LINES[8:])
        for at in (5, 6, 8):
            lines = LINES[:at] + LINES[at + 1:]
            self.like(told(FOUR, ALL_KINDS[:at - 1] + ALL_KINDS[at:]), "".join(line + "\n" for line in lines))

    def test_a_line_twice(self):
        for at in (0, 1, 2, 7, 8):
            self.refused_lines(at + 1, LINES[:at + 1] + LINES[at:])
        for at in (3, 4, 5, 6):
            lines = LINES[:at + 1] + LINES[at:]
            deeds = ALL_KINDS[:at] + ALL_KINDS[at - 1:]
            self.like(told(FOUR, deeds), "".join(line + "\n" for line in lines))

    def test_two_lines_exchanged(self):
        for low, high, at in ((0, 1, 0), (1, 7, 1), (3, 5, 3), (4, 6, 4), (7, 8, 7)):
            lines = list(LINES)
            lines[low], lines[high] = lines[high], lines[low]
            self.refused_lines(at, lines)
        lines = LINES[:1] + [LINES[2], LINES[1]] + LINES[3:]
        self.like(told(FOUR, (ALL_KINDS[1], ALL_KINDS[0]) + ALL_KINDS[2:]), "".join(line + "\n" for line in lines))

    def test_long_pages(self):
        house = told(("a",), [("start", "x", ("a",), [])])
        for step in range(300):
            house.do(("enter", (step % 10,), 1 + step))
        text = page_text(house)
        self.like(house, text)
        self.refused(302, text + "withdraw 0 1000000000000\n")
        self.refused(302, text + "shut x")


if __name__ == "__main__":
    unittest.main()
