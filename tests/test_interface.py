"""The interface: each name that the document tells is there, with its arguments, in its module."""

import importlib
import inspect
import unittest

DEFS = {
    "rows": {
        "is_name": ["text"], "is_room": ["names"], "is_row": ["room", "row"], "within": ["part", "room"],
        "united": ["one", "other"], "common": ["one", "other"], "share": ["room", "row", "part"],
    },
    "tally": {
        "is_tally": ["room", "rows"], "made": ["room", "papers"], "plus": ["one", "other"], "less": ["one", "other"],
        "total": ["rows"], "shared": ["room", "rows", "part"],
    },
    "agree": {"bar": ["room", "rows", "other_room", "other_rows"], "bars": ["rooms", "tallies"]},
    "joinup": {"joined": ["room", "rows", "other_room", "other_rows"]},
    "hanging": {
        "all_questions": ["rooms"], "host": ["rooms", "place"], "paper": ["rooms"], "good_paper": ["rooms", "told"],
    },
    "spoil": {"borne": ["rooms", "told"]},
    "whole": {"is_whole": ["rooms", "tallies", "rows"], "whole": ["rooms", "tallies"]},
    "notes": {
        "room_text": ["room"], "row_text": ["row"], "tally_text": ["rows"], "deed_text": ["deed"],
        "read_deed": ["line"], "page_text": ["house"], "read_page": ["text"],
    },
}
CLASSES = {
    ("house", "House"): {
        "__init__": ["questions"], "do": ["deed"], "back": [], "again": [], "deeds": [], "questions": [], "rooms": [],
        "room": ["name"], "tally": ["name"], "bars": [], "whole": [], "paper": [], "borne": [], "twin": [],
    },
    ("desk", "Desk"): {"__init__": ["questions"], "say": ["line"], "house": []},
}


def parameters(work):
    return list(inspect.signature(work).parameters)


class Interface(unittest.TestCase):
    def test_functions(self):
        for file, defs in DEFS.items():
            module = importlib.import_module("roomtally." + file)
            for name, wanted in defs.items():
                with self.subTest(file=file, name=name):
                    self.assertEqual(parameters(getattr(module, name)), wanted)

    def test_classes(self):
        for (file, name), methods in CLASSES.items():
            found = getattr(importlib.import_module("roomtally." + file), name)
            for method, wanted in methods.items():
                with self.subTest(name=name, method=method):
                    self.assertEqual(parameters(getattr(found, method))[1:], wanted)


if __name__ == "__main__":
    unittest.main()
