"""Rooms, rows, tallies, deeds and pages as texts, written and read."""

from roomtally.errors import BadText, RoomError
from roomtally.house import House
from roomtally.rows import MOST_QUESTIONS, is_name, is_room
from roomtally.tally import is_tally

MOST_FIGURES = 13


def room_text(room):
    """The room, written."""
    if len(room) == 0:
        return "-"
    return "+".join(room)


def row_text(row):
    """The row, written."""
    if len(row) == 0:
        return "-"
    return ".".join([str(answer) for answer in row])


def tally_text(rows):
    """The tally, written."""
    if len(rows) == 0:
        return "none"
    return " ".join([f"{row_text(row)}={count}" for row, count in rows])


def deed_text(deed):
    """The deed, written as one line without its line feed."""
    word = deed[0]
    if word == "start":
        return f"start {deed[1]} {room_text(deed[2])} {tally_text(deed[3])}"
    if word == "shut":
        return f"shut {deed[1]}"
    if word in ("enter", "withdraw"):
        return f"{word} {row_text(deed[1])} {deed[2]}"
    return f"{word} {deed[1]} {row_text(deed[2])} {deed[3]}"


def is_figure(sign):
    """True where the text is one figure."""
    return len(sign) == 1 and "0" <= sign <= "9"


def read_name(word):
    """The name that the word is."""
    if not is_name(word):
        raise BadText(0)
    return word


def read_room(word):
    """The room that the word writes."""
    if word == "-":
        return ()
    room = tuple(word.split("+"))
    if not is_room(room):
        raise BadText(0)
    return room


def read_row(word):
    """The row, of any room, that the word writes."""
    if word == "-":
        return ()
    answers = word.split(".")
    if len(answers) > MOST_QUESTIONS or not all([is_figure(answer) for answer in answers]):
        raise BadText(0)
    return tuple([int(answer) for answer in answers])


def read_number(word):
    """The number that the word writes."""
    if not 1 <= len(word) <= MOST_FIGURES or not all([is_figure(sign) for sign in word]):
        raise BadText(0)
    if word[0] == "0" and word != "0":
        raise BadText(0)
    return int(word)


def read_tally(room, words):
    """The tally of the room that the words write."""
    if words == ["none"]:
        return []
    rows = []
    for word in words:
        row, sign, count = word.partition("=")
        rows.append((read_row(row), read_number(count)))
    if not is_tally(room, rows):
        raise BadText(0)
    return rows


def read_deed(line):
    """The deed that the line writes."""
    words = line.split(" ")
    word = words[0]
    if word == "start" and len(words) >= 4:
        room = read_room(words[2])
        return (word, read_name(words[1]), room, read_tally(room, words[3:]))
    if word == "shut" and len(words) == 2:
        return (word, read_name(words[1]))
    if word in ("enter", "withdraw") and len(words) == 3:
        return (word, read_row(words[1]), read_number(words[2]))
    if word in ("mark", "strike") and len(words) == 4:
        return (word, read_name(words[1]), read_row(words[2]), read_number(words[3]))
    raise BadText(0)


def page_text(house):
    """The page of a house: its questions and the deeds that it keeps, line by line."""
    lines = [f"questions {room_text(house.questions())}"] + [deed_text(deed) for deed in house.deeds()]
    return "".join([line + "\n" for line in lines])


def read_questions(line):
    """A new house with the questions that the first line of a page writes."""
    words = line.split(" ")
    if len(words) != 2 or words[0] != "questions":
        raise BadText(0)
    return House(read_room(words[1]))


def read_page(text):
    """The house whose page the text is."""
    lines = text.split("\n")
    # Behind the last line feed nothing is left of a page; what is left there is a line without its own.
    left = lines.pop()
    if len(lines) == 0:
        raise BadText(0)
    try:
        house = read_questions(lines[0])
    except RoomError:
        raise BadText(0)
    for at in range(1, len(lines)):
        try:
            house.do(read_deed(lines[at]))
        except RoomError:
            raise BadText(at)
    if left != "":
        raise BadText(len(lines))
    return house
