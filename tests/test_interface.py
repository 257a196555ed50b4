"""The interface: each name stands in its file, with its arguments, and nothing is taken from elsewhere."""

import importlib
import inspect
import unittest

FUNCTIONS = {
    "signs": {
        "is_sign": "thing", "want_letters": "letters", "want_word": "word letters=None",
        "common_start": "one other", "before": "one other letters", "number_of": "word letters",
        "word_of": "number letters",
    },
    "case": {"clusters": "case word"},
    "order": {
        "ordered": "case word", "turned": "word row", "settled": "case word", "exchanges": "case word",
        "same_marks": "case one other",
    },
}
CLASSES = {
    ("errors", "NoWord"): {"__init__": "self at"},
    ("errors", "NoRule"): {"__init__": "self what"},
    ("errors", "NoCase"): {"__init__": "self what"},
    ("errors", "NoRoom"): {"__init__": "self number"},
    ("errors", "NoPlace"): {"__init__": "self at"},
    ("errors", "NoPaper"): {"__init__": "self at"},
    ("errors", "TooMuch"): {"__init__": "self many"},
    ("errors", "NoText"): {"__init__": "self at"},
    ("errors", "NoRow"): {"__init__": "self many"},
    ("errors", "NoName"): {"__init__": "self name"},
    ("case", "Case"): {
        "__init__": "self ranks=None wide=None feet=None seats=None", "rank_of": "self sign",
        "is_base": "self sign", "is_hung": "self sign", "wide_of": "self sign", "foot_of": "self sign",
        "seat_of": "self sign rank", "__len__": "self", "__eq__": "self other", "__str__": "self",
    },
    ("rules", "Rule"): {
        "__init__": "self what becomes behind=None ahead=None", "fits": "self written waiting",
        "reach": "self", "back": "self", "put": "self", "__eq__": "self other", "__str__": "self",
    },
    ("passes", "Pass"): {
        "__init__": "self rules=None", "rules": "self", "step": "self written waiting", "row": "self text",
        "reach": "self", "back": "self", "__len__": "self", "__eq__": "self other",
    },
    ("shaper", "Shaper"): {
        "__init__": "self passes=None", "passes": "self", "row": "self word", "glyphs": "self word",
        "signs_of": "self word place", "trail": "self word", "without": "self at number",
        "exchanged": "self at", "then": "self other", "signs": "self letters", "__len__": "self",
        "__eq__": "self other",
    },
}


def shown(function):
    """A function's arguments, as the tables above have them."""
    return " ".join(str(one) for one in inspect.signature(function).parameters.values())


class Interface(unittest.TestCase):
    def test_functions(self):
        for file, functions in FUNCTIONS.items():
            module = importlib.import_module(f"markseam.{file}")
            for name, arguments in functions.items():
                self.assertEqual(getattr(module, name).__module__, f"markseam.{file}")
                self.assertEqual(shown(getattr(module, name)), arguments)

    def test_classes(self):
        for (file, name), methods in CLASSES.items():
            found = getattr(importlib.import_module(f"markseam.{file}"), name)
            self.assertEqual(found.__module__, f"markseam.{file}")
            for method, arguments in methods.items():
                self.assertIn(method, vars(found))
                self.assertEqual(shown(vars(found)[method]), arguments)


if __name__ == "__main__":
    unittest.main()
