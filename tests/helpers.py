"""What the tests share: refusals that are told whole, and things of every kind."""

import unittest

from markseam import errors

KINDS = (
    errors.NoWord, errors.NoRule, errors.NoCase, errors.NoRoom, errors.NoPlace,
    errors.NoPaper, errors.TooMuch, errors.NoText, errors.NoRow, errors.NoName,
)
FIELDS = {
    errors.NoWord: "at", errors.NoRule: "what", errors.NoCase: "what", errors.NoRoom: "number",
    errors.NoPlace: "at", errors.NoPaper: "at", errors.TooMuch: "many", errors.NoText: "at",
    errors.NoRow: "many", errors.NoName: "name",
}
SIGNS = "ABCDEFGHIJKLMNOPQRSTUVWXYZabcdefghijklmnopqrstuvwxyz"


class Yes:
    """Says of all things that they are equal to it, and that it stands in order with them."""

    __hash__ = None

    def __eq__(self, other):
        return True

    def __le__(self, other):
        return True

    def __ge__(self, other):
        return True


class Stubborn:
    """Fails whatever it is asked."""

    __hash__ = None

    def refuse(self, *rest):
        raise RuntimeError("asked")

    __eq__ = __ne__ = __lt__ = __le__ = __gt__ = __ge__ = refuse
    __len__ = __bool__ = __iter__ = __getitem__ = __str__ = __repr__ = __format__ = refuse
    __int__ = __index__ = __contains__ = refuse


def things():
    """Things of every kind that are no texts, no whole numbers, no lists, dicts or tuples."""
    return [True, False, 1.0, 0.0, b"a", set(), {1}, frozenset(), object(), Yes(), Stubborn(),
            len, int, range(2), ...]


def no_texts():
    return things() + [None, 0, 1, -1, [], ["a"], {}, {"a": 1}, (), ("a",)]


def no_wholes():
    return things() + [None, "", "0", "a", [], [0], {}, {0: 0}, (), (0,)]


def no_lists():
    """None is left out: many arguments take it as a list without things."""
    return things() + [0, 1, "", "a", "ab", {}, {"a": 1}, (), ("a",)]


class SeamCase(unittest.TestCase):
    """A test that can say what a call is refused with."""

    def refused(self, kind, field, call, *args, **more):
        try:
            call(*args, **more)
        except errors.SeamError as e:
            caught = e
        else:
            self.fail("not refused")
        self.assertTrue(type(caught) is kind, type(caught).__name__)
        self.assertIsInstance(caught, ValueError)
        self.assertEqual([one for one in KINDS if isinstance(caught, one)], [kind])
        told = getattr(caught, FIELDS[kind])
        if told is not field:
            self.assertIs(type(told), type(field))
            self.assertEqual(told, field)
