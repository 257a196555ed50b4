"""The interface: each name stands in its file, with its arguments, and nothing is taken from elsewhere."""

import importlib
import inspect
import unittest

FUNCTIONS = {
    "signs": {
        "is_sign": "thing", "want_letters": "letters", "want_word": "word letters=None",
        "common_start": "one other", "before": "one other letters", "number_of": "word letters",
        "word_of": "number letters",
    },
    "case": {"clusters": "case word"},
    "order": {
        "ordered": "case word", "turned": "word row", "settled": "case word", "exchanges": "case word",
        "same_marks": "case one other",
    },
    "stands": {
        "start": "shaper", "fed": "shaper stand sign", "ended": "shaper stand", "stands_of": "shaper letters",
    },
    "least": {"least_of": "machine", "machine_of": "shaper letters"},
    "papers": {"paper_of": "shaper letters", "check_paper": "shaper machine paper"},
    "judging": {
        "parting": "one other", "alike": "one other", "check_alike": "one other pairs",
        "rooms_parted": "machine j k", "after": "one other", "shows": "shaper at number letters",
        "idle": "shaper letters", "may_change": "shaper at letters",
    },
    "back": {"check_shut": "machine row paper", "first_with": "machine part"},
    "twins": {"twins": "machine", "check_twins": "machine paper"},
    "places": {"seated": "case row", "placed": "hand word", "width": "case row"},
    "carets": {"spans": "hand word", "stops": "hand word", "caret": "hand word place", "hit": "hand word x"},
    "seams": {"seams": "machine word", "no_seam": "machine word k", "pieces": "machine word", "seamless": "machine"},
    "texts": {
        "shown_rule": "rule", "shown_shaper": "shaper", "shown_machine": "machine", "read_rule": "text",
        "read_shaper": "text", "read_machine": "text",
    },
}
CLASSES = {
    ("errors", "NoWord"): {"__init__": "self at"},
    ("errors", "NoRule"): {"__init__": "self what"},
    ("errors", "NoCase"): {"__init__": "self what"},
    ("errors", "NoRoom"): {"__init__": "self number"},
    ("errors", "NoPlace"): {"__init__": "self at"},
    ("errors", "NoPaper"): {"__init__": "self at"},
    ("errors", "TooMuch"): {"__init__": "self many"},
    ("errors", "NoText"): {"__init__": "self at"},
    ("errors", "NoRow"): {"__init__": "self many"},
    ("errors", "NoName"): {"__init__": "self name"},
    ("case", "Case"): {
        "__init__": "self ranks=None wide=None feet=None seats=None", "rank_of": "self sign",
        "is_base": "self sign", "is_hung": "self sign", "wide_of": "self sign", "foot_of": "self sign",
        "seat_of": "self sign rank", "__len__": "self", "__eq__": "self other", "__str__": "self",
    },
    ("rules", "Rule"): {
        "__init__": "self what becomes behind=None ahead=None", "fits": "self written waiting",
        "reach": "self", "back": "self", "put": "self", "__eq__": "self other", "__str__": "self",
    },
    ("passes", "Pass"): {
        "__init__": "self rules=None", "rules": "self", "step": "self written waiting", "row": "self text",
        "reach": "self", "back": "self", "__len__": "self", "__eq__": "self other",
    },
    ("shaper", "Shaper"): {
        "__init__": "self passes=None", "passes": "self", "row": "self word", "glyphs": "self word",
        "signs_of": "self word place", "trail": "self word", "without": "self at number",
        "exchanged": "self at", "then": "self other", "signs": "self letters", "__len__": "self",
        "__eq__": "self other",
    },
    ("machine", "Machine"): {
        "__init__": "self letters rooms first=''", "row": "self word", "told": "self word", "letters": "self",
        "first": "self", "rooms": "self", "__len__": "self", "__eq__": "self other", "__str__": "self",
    },
    ("back", "Back"): {
        "__init__": "self machine row", "first": "self", "how_many": "self", "words": "self most",
        "loop": "self", "shut": "self",
    },
    ("script", "Script"): {
        "__init__": "self case shaper", "row": "self word", "glyphs": "self word", "letters_to": "self word",
        "__eq__": "self other",
    },
    ("page", "Page"): {
        "__init__": "self hand letters text=''", "text": "self", "row": "self", "places": "self", "pieces": "self",
        "put": "self at word", "cut": "self at many", "took_in": "self other", "undo": "self",
        "parted_at": "self at", "twin": "self", "__len__": "self", "__eq__": "self other", "__str__": "self",
    },
    ("desk", "Desk"): {"__init__": "self", "say": "self row"},
}


def shown(function):
    """A function's arguments, as the tables above have them."""
    return " ".join(str(one) for one in inspect.signature(function).parameters.values())


class Interface(unittest.TestCase):
    def test_functions(self):
        for file, functions in FUNCTIONS.items():
            module = importlib.import_module(f"markseam.{file}")
            for name, arguments in functions.items():
                self.assertEqual(getattr(module, name).__module__, f"markseam.{file}")
                self.assertEqual(shown(getattr(module, name)), arguments)

    def test_classes(self):
        for (file, name), methods in CLASSES.items():
            found = getattr(importlib.import_module(f"markseam.{file}"), name)
            self.assertEqual(found.__module__, f"markseam.{file}")
            for method, arguments in methods.items():
                self.assertIn(method, vars(found))
                self.assertEqual(shown(vars(found)[method]), arguments)


if __name__ == "__main__":
    unittest.main()
