"""What the tests share: refusals that are told whole, things of every kind, and rules and machines made by chance."""

import itertools
import unittest

from markseam import errors
from markseam.case import Case
from markseam.least import machine_of
from markseam.machine import Machine
from markseam.passes import Pass
from markseam.rules import Rule
from markseam.script import Script
from markseam.shaper import Shaper

KINDS = (
    errors.NoWord, errors.NoRule, errors.NoCase, errors.NoRoom, errors.NoPlace,
    errors.NoPaper, errors.TooMuch, errors.NoText, errors.NoRow, errors.NoName,
)
FIELDS = {
    errors.NoWord: "at", errors.NoRule: "what", errors.NoCase: "what", errors.NoRoom: "number",
    errors.NoPlace: "at", errors.NoPaper: "at", errors.TooMuch: "many", errors.NoText: "at",
    errors.NoRow: "many", errors.NoName: "name",
}
SIGNS = "ABCDEFGHIJKLMNOPQRSTUVWXYZabcdefghijklmnopqrstuvwxyz"


class Yes:
    """Says of all things that they are equal to it, and that it stands in order with them."""

    __hash__ = None

    def __eq__(self, other):
        return True

    def __le__(self, other):
        return True

    def __ge__(self, other):
        return True


class Stubborn:
    """Fails whatever it is asked."""

    __hash__ = None

    def refuse(self, *rest):
        raise RuntimeError("asked")

    __eq__ = __ne__ = __lt__ = __le__ = __gt__ = __ge__ = refuse
    __len__ = __bool__ = __iter__ = __getitem__ = __str__ = __repr__ = __format__ = refuse
    __int__ = __index__ = __contains__ = refuse


def things():
    """Things of every kind that are no texts, no whole numbers, no lists, dicts or tuples."""
    return [True, False, 1.0, 0.0, b"a", set(), {1}, frozenset(), object(), Yes(), Stubborn(),
            len, int, range(2), ...]


def no_texts():
    return things() + [None, 0, 1, -1, [], ["a"], {}, {"a": 1}, (), ("a",)]


def no_wholes():
    return things() + [None, "", "0", "a", [], [0], {}, {0: 0}, (), (0,)]


def no_lists():
    """None is left out: many arguments take it as a list without things."""
    return things() + [0, 1, "", "a", "ab", {}, {"a": 1}, (), ("a",)]


def no_letters():
    return no_texts() + ["", "aa", "aba", "a1", "a b", "|", "abcdefghijklmnopq"]


def words(letters, most):
    """All words of the letters with at most so many, in their order."""
    return ["".join(signs) for many in range(most + 1) for signs in itertools.product(letters, repeat=many)]


def start_of_all(texts):
    """The longest text with which all of them begin."""
    low, high = min(texts), max(texts)
    many = 0
    while many < len(low) and low[many] == high[many]:
        many += 1
    return low[:many]


def row_by_rooms(machine, word):
    """A machine's row of a word, read off its rooms."""
    told, room, rooms = machine.first(), 0, machine.rooms()
    for letter in word:
        text, room = rooms[room][1][machine.letters().index(letter)]
        told += text
    return told + rooms[room][0]


def machine_by(chance, letters="ab", most=4):
    """A small machine: a random.Random chooses it."""
    many = chance.randrange(1, most + 1)
    texts = chance.choice([("", "", "x", "y", "xy", "xx", "yx", "xyx"), ("", "x", "xx"), ("x", "y"), ("", "x", "y")])
    rooms = [(chance.choice(texts), [(chance.choice(texts), chance.randrange(many)) for _ in letters])
             for _ in range(many)]
    return Machine(letters, rooms, chance.choice(texts))


def rule_by(chance, signs):
    def places(many):
        return ["".join(chance.sample(signs, chance.randrange(1, len(signs) + 1))) for _ in range(many)]
    becomes = "".join(chance.choice(signs) for _ in range(chance.randrange(4)))
    behind, ahead = places(chance.choice([0, 0, 1, 2])), places(chance.choice([0, 0, 1, 2]))
    if behind and chance.random() < 0.3:
        behind[0] = "|"
    if ahead and chance.random() < 0.3:
        ahead[-1] = "|"
    return Rule(places(chance.choice([1, 1, 2, 2, 3])), becomes, behind, ahead)


def shaper_by(chance, signs="abc", most=3):
    """A small shaper: a random.Random chooses it."""
    return Shaper([Pass([rule_by(chance, signs) for _ in range(chance.choice([0, 1, 1, 2, 3]))])
                   for _ in range(chance.randrange(most + 1))])


def case_by(chance, signs="abc"):
    """A case, some of the signs of which are marks, with measures: a random.Random chooses it."""
    def point():
        return (chance.choice([-1000, -7, 0, 20, 1000]), chance.choice([-1000, -30, 0, 5, 1000]))
    ranks = {sign: chance.choice([0, 0, 1, 1, 2, 9]) for sign in signs if chance.random() < 0.6}
    wide = {sign: chance.choice([0, 1, 333, 500, 1000]) for sign in signs
            if not ranks.get(sign) and chance.random() < 0.7}
    feet = {sign: point() for sign in signs if ranks.get(sign) and chance.random() < 0.7}
    seats = {(sign, rank): point() for sign in signs for rank in (1, 2, 9) if chance.random() < 0.4}
    return Case(ranks, wide, feet, seats)


def script_by(chance, signs="abc"):
    """A small script: a random.Random chooses it."""
    return Script(case_by(chance, signs), shaper_by(chance, signs))


def machine_of_rules(chance, letters="ab"):
    """The least machine of a small shaper that has not too many stands: a random.Random chooses it."""
    while True:
        try:
            return machine_of(shaper_by(chance, letters), letters)
        except errors.TooMuch:
            pass


def word_by(chance, signs, most):
    return "".join(chance.choice(signs) for _ in range(chance.randrange(most + 1)))


# Shapers, by the letters, with just as many stands.
ALL_G = "abcdefg"
STANDS_200 = Shaper([Pass([Rule(["a"], "b", [ALL_G, ALL_G]), Rule(["abcde", ALL_G], "", [ALL_G])])])
ALL_H = "abcdefgh"
STANDS_201 = Shaper([Pass([Rule(["abcdefg"], "a"), Rule(["a", ALL_H], "", [ALL_H], [ALL_H])])])


class SeamCase(unittest.TestCase):
    """A test that can say what a call is refused with."""

    def refused(self, kind, field, call, *args, **more):
        try:
            call(*args, **more)
        except errors.SeamError as e:
            caught = e
        else:
            self.fail("not refused")
        self.assertTrue(type(caught) is kind, type(caught).__name__)
        self.assertIsInstance(caught, ValueError)
        self.assertEqual([one for one in KINDS if isinstance(caught, one)], [kind])
        told = getattr(caught, FIELDS[kind])
        if told is not field:
            self.assertIs(type(told), type(field))
            self.assertEqual(told, field)
