"""[47], [48]: scripts."""

import random
import unittest

from markseam.case import Case, clusters
from markseam.errors import NoWord
from markseam.order import ordered
from markseam.passes import Pass
from markseam.rules import Rule
from markseam.script import Script
from markseam.shaper import Shaper
from tests.helpers import SeamCase, no_texts, script_by, word_by

# f is a fore mark, e and o are hung marks.
CASE = Case({"f": 0, "e": 1, "o": 2})
# B and e join, o vanishes behind them; f and C join; D parts into two; K vanishes.
SHAPER = Shaper([
    Pass([Rule(["B", "e"], "E"), Rule(["o"], "", ["E"]), Rule(["f", "C"], "G")]),
    Pass([Rule(["D"], "xy"), Rule(["K"], "")]),
])
HAND = Script(CASE, SHAPER)


def led(shaper, text):
    """Each sign of a text's row with the places to which it leads, step by step."""
    row = [(sign, {at}) for at, sign in enumerate(text)]
    for one in shaper.passes():
        written, waiting = [], row
        while waiting:
            number, many, put = one.step("".join(sign for sign, _ in written), "".join(sign for sign, _ in waiting))
            if number is None:
                written.append(waiting[0])
            else:
                places = set().union(*(places for _, places in waiting[:many]))
                written.extend((sign, places) for sign in put)
            waiting = waiting[many:]
        row = written
    return row


def number_of_cluster(case, word, letter):
    return [begin <= letter < end for begin, end in clusters(case, word)].index(True)


class Rows(SeamCase):
    def test_marks_are_put_in_order_first(self):
        rows = [("", ""), ("B", "B"), ("Be", "E"), ("Boe", "E"), ("Beo", "E"), ("Bo", "Bo"), ("Cf", "G"), ("fC", "G"),
                ("Cof", "Go"), ("BoeDf", "Efxy"), ("KCf", "G"), ("K", ""), ("CfK", "G"), ("CK", "C"), ("eB", "eB")]
        for word, row in rows:
            self.assertEqual(HAND.row(word), row, word)

    def test_by_chance(self):
        chance = random.Random(47)
        for _ in range(300):
            hand = script_by(chance)
            word = word_by(chance, "abc", 8)
            self.assertEqual(hand.row(word), hand.shaper.row(ordered(hand.case, word)[0]))

    def test_words_without_marks(self):
        self.assertEqual(HAND.row("xyZ"), "xyZ")


class Glyphs(SeamCase):
    def test_places_are_those_in_the_word(self):
        rows = [
            ("", []), ("B", [("B", [0])]), ("Boe", [("E", [0, 2])]), ("Beo", [("E", [0, 1])]),
            ("Df", [("f", [1]), ("x", [0]), ("y", [0])]), ("Cof", [("G", [0, 2]), ("o", [1])]),
            ("BoeDf", [("E", [0, 2]), ("f", [4]), ("x", [3]), ("y", [3])]), ("K", []), ("BK", [("B", [0])]),
            ("oef", [("f", [2]), ("e", [1]), ("o", [0])]), ("BooeeC", [("E", [0, 3]), ("e", [4]), ("o", [1]),
                                                                         ("o", [2]), ("C", [5])]),
        ]
        for word, glyphs in rows:
            self.assertEqual(HAND.glyphs(word), glyphs, word)

    def test_copied_signs(self):
        hand = Script(CASE, Shaper([Pass([Rule(["a"], "aa")]), Pass([Rule(["a", "a"], "b", ["b"])])]))
        self.assertEqual(hand.glyphs("aoa"), [("a", [0]), ("a", [0]), ("o", [1]), ("a", [2]), ("a", [2])])
        self.assertEqual(hand.glyphs("baa"), [("b", [0]), ("b", [1]), ("b", [2])])

    def test_kinds(self):
        told = HAND.glyphs("BoeDf")
        self.assertIs(type(told), list)
        for glyph in told:
            self.assertEqual((type(glyph), type(glyph[0]), type(glyph[1])), (tuple, str, list))

    def test_by_chance(self):
        chance = random.Random(48)
        for _ in range(500):
            hand = script_by(chance)
            word = word_by(chance, "abc", 9)
            text, places = ordered(hand.case, word)
            glyphs = hand.glyphs(word)
            self.assertEqual(glyphs, [(sign, sorted(places[at] for at in found))
                                      for sign, found in led(hand.shaper, text)])
            self.assertEqual("".join(sign for sign, _ in glyphs), hand.row(word))

    def test_no_cluster_goes_back(self):
        chance = random.Random(49)
        for _ in range(500):
            hand = script_by(chance, "abcd")
            word = word_by(chance, "abcd", 9)
            numbers = [[number_of_cluster(hand.case, word, at) for at in letters] for _, letters in hand.glyphs(word)]
            for one, other in zip(numbers, numbers[1:]):
                self.assertLessEqual(min(one), min(other))
                self.assertLessEqual(max(one), max(other))

    def test_letters_may_go_back_within_a_cluster(self):
        self.assertEqual(HAND.glyphs("Co"[::-1] + "e"), [("o", [0]), ("C", [1]), ("e", [2])])
        self.assertEqual(HAND.glyphs("Coe"), [("C", [0]), ("e", [2]), ("o", [1])])


class LettersTo(SeamCase):
    def test_some(self):
        rows = [("", []), ("K", [[]]), ("Boe", [[0], [], [0]]), ("Df", [[1, 2], [0]]), ("Cof", [[0], [1], [0]]),
                ("BoeDf", [[0], [], [0], [2, 3], [1]]), ("KBK", [[], [0], []])]
        for word, numbers in rows:
            self.assertEqual(HAND.letters_to(word), numbers, word)

    def test_turns_glyphs_round(self):
        chance = random.Random(50)
        for _ in range(300):
            hand = script_by(chance)
            word = word_by(chance, "abc", 9)
            glyphs = hand.glyphs(word)
            self.assertEqual(hand.letters_to(word), [[number for number, (_, letters) in enumerate(glyphs)
                                                      if at in letters] for at in range(len(word))])


class Both(SeamCase):
    def test_fields(self):
        self.assertIs(HAND.case, CASE)
        self.assertIs(HAND.shaper, SHAPER)

    def test_equal(self):
        self.assertEqual(HAND, Script(Case({"o": 2, "e": 1, "f": 0}), Shaper(SHAPER.passes())))
        self.assertEqual(Script(Case(), Shaper()), Script(Case({}), Shaper([])))
        self.assertFalse(HAND == Script(Case({"f": 0, "e": 1, "o": 3}), SHAPER))
        self.assertFalse(HAND == Script(CASE, SHAPER.exchanged(0)))
        self.assertFalse(Script(Case(wide={"a": 1}), Shaper()) == Script(Case(), Shaper()))
        self.assertFalse(Script(Case(), Shaper([Pass()])) == Script(Case(), Shaper()))
        self.assertTrue(HAND != Script(Case(), SHAPER))

    def test_equal_to_nothing_else(self):
        for thing in [None, CASE, SHAPER, (CASE, SHAPER), "", 0, True, [], object()]:
            self.assertFalse(HAND == thing)
            self.assertFalse(thing == HAND)

    def test_what_is_told_is_the_askers_own(self):
        glyphs = HAND.glyphs("Df")
        glyphs[1][1].append(9)
        self.assertEqual(glyphs[2], ("y", [0]))
        glyphs.clear()
        numbers = HAND.letters_to("Df")
        numbers[0].clear()
        numbers.clear()
        self.assertEqual(HAND.glyphs("Df"), [("f", [1]), ("x", [0]), ("y", [0])])
        self.assertEqual(HAND.letters_to("Df"), [[1, 2], [0]])

    def test_what_was_handed_in_may_change(self):
        ranks = {"a": 1}
        passes = [Pass([Rule(["a"], "")])]
        hand = Script(Case(ranks), Shaper(passes))
        ranks.clear()
        passes.clear()
        self.assertEqual(hand.row("Ba"), "B")
        self.assertTrue(hand.case.is_hung("a"))

    def test_by_names(self):
        hand = Script(shaper=SHAPER, case=CASE)
        self.assertEqual(hand, HAND)
        self.assertEqual(hand.row(word="Boe"), "E")
        self.assertEqual(hand.glyphs(word="Boe"), [("E", [0, 2])])
        self.assertEqual(hand.letters_to(word="Boe"), [[0], [], [0]])

    def test_refused(self):
        for call in (HAND.row, HAND.glyphs, HAND.letters_to):
            for thing in no_texts():
                self.refused(NoWord, -1, call, thing)
            for word, at in (("1", 0), ("a1", 1), ("a b", 1), ("abc|", 3), ("-", 0), ("ab\n", 2), (" ", 0),
                             ("aB9-", 2)):
                self.refused(NoWord, at, call, word)

    def test_long_words(self):
        word = "Boe" * 333 + "D"
        self.assertEqual(HAND.row(word), "E" * 333 + "xy")
        self.assertEqual(HAND.glyphs(word)[-2:], [("x", [999]), ("y", [999])])
        self.assertEqual(HAND.letters_to(word)[:3], [[0], [], [0]])
        grown = Script(CASE, Shaper([Pass([Rule(["a"], "aaa")])] * 4))
        self.assertEqual(grown.letters_to("a" * 1000)[999], list(range(81 * 999, 81000)))
        self.assertEqual(len(grown.glyphs("a" * 1000)), 81000)


if __name__ == "__main__":
    unittest.main()
