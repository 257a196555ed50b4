"""[23] to [25]: stands."""

import random
import unittest

from markseam.errors import NoRule, NoWord, TooMuch
from markseam.passes import Pass
from markseam.rules import Rule
from markseam.shaper import Shaper
from markseam.stands import ended, fed, stands_of, start
from tests.helpers import (
    ALL_G, ALL_H, STANDS_200, STANDS_201, SeamCase, no_letters, no_texts, shaper_by, words)

# The document's own example.
SHOWN = Shaper([Pass([Rule(["ab", "b"], "y", ["x"])])])
# A word's first b vanishes; a sign ahead of the end is doubled.
EDGES = Shaper([Pass([Rule(["b"], "", ["|"]), Rule(["a"], "aa", ["|", "b"], ["a", "|"])])])
SPREAD = [Pass([Rule([one], other)]) for one, other in (("a", "bcb"), ("b", "dcd"), ("c", "bb"), ("d", "e"))]


def fed_with(shaper, word):
    """What is told while a word is fed, and the stand then."""
    stand, told = start(shaper), ""
    for sign in word:
        text, stand = fed(shaper, stand, sign)
        told += text
    return told, stand


def stands_by_feeding(shaper, letters):
    """All stands in the order of their first words, found by start and fed alone."""
    stands = [start(shaper)]
    for stand in stands:
        for letter in letters:
            goal = fed(shaper, stand, letter)[1]
            if goal not in stands:
                stands.append(goal)
    return stands


class Start(SeamCase):
    def test_for_each_pass_a_tuple_of_empty_texts(self):
        for many in range(5):
            told = start(Shaper([Pass([Rule(["a"], "b", ["c"], ["d"])])] * many))
            self.assertEqual(told, (("", ""),) * many)
            self.assertIs(type(told), tuple)
            self.assertTrue(all(type(pair) is tuple for pair in told))

    def test_by_name(self):
        self.assertEqual(start(shaper=SHOWN), (("", ""),))


class Fed(SeamCase):
    def test_the_document_s_example(self):
        told, stand = fed(SHOWN, start(SHOWN), "x")
        self.assertEqual((told, stand), ("", (("", "x"),)))
        told, stand = fed(SHOWN, stand, "a")
        self.assertEqual((told, stand), ("x", (("x", "a"),)))
        told, stand = fed(SHOWN, stand, "b")
        self.assertEqual((told, stand), ("y", (("y", ""),)))

    def test_a_shaper_without_passes_tells_the_sign(self):
        for sign in "aZ":
            self.assertEqual(fed(Shaper(), (), sign), (sign, ()))
        self.assertEqual(ended(Shaper(), ()), "")

    def test_a_pass_without_rules_keeps_nothing(self):
        one = Shaper([Pass(), Pass()])
        self.assertEqual(fed(one, start(one), "q"), ("q", start(one)))

    def test_back_of_none_keeps_nothing_that_was_written(self):
        one = Shaper([Pass([Rule(["a"], "bb", None, ["c"])])])
        told, stand = fed_with(one, "acacx")
        self.assertEqual((told, stand), ("bbcbbc", (("", "x"),)))

    def test_as_many_signs_as_the_greatest_back_are_kept(self):
        one = Shaper([Pass([Rule(["z"], "", ["p", "q"]), Rule(["w"], "abc", ["x"])])])
        stands = [fed_with(one, word)[1] for word in ("", "x", "xw", "xwk")]
        self.assertEqual(stands, [(("", ""),), (("x", ""),), (("bc", ""),), (("ck", ""),)])

    def test_fewer_signs_than_back_tell_of_the_edge(self):
        one = Shaper([Pass([Rule(["b"], "K", ["|", "a"])])])
        self.assertEqual(fed(one, (("a", ""),), "b"), ("K", (("aK", ""),)))
        self.assertEqual(fed(one, (("aa", ""),), "b"), ("b", (("ab", ""),)))
        self.assertEqual(fed(one, (("", ""),), "b"), ("b", (("b", ""),)))
        self.assertNotIn("|", str(stands_of(one, "ab")))

    def test_signs_that_vanish_are_not_written(self):
        self.assertEqual([fed_with(EDGES, "b" * many)[1] for many in (2, 3, 4)],
                         [(("", "bb"),), (("", "bb"),), (("", "bb"),)])

    def test_what_is_behind_the_edge_is_not_known_before_the_end(self):
        one = Shaper([Pass([Rule(["a"], "z", None, ["|"])])])
        told, stand = fed_with(one, "aaa")
        self.assertEqual((told, stand, ended(one, stand)), ("aa", (("", "a"),), "z"))

    def test_a_sign_goes_through_several_passes_at_once(self):
        one = Shaper(SPREAD)
        self.assertEqual(fed(one, start(one), "a"), ("ebbebbebbe", (("", ""),) * 4))
        self.assertEqual(fed(one, start(one), "c"), ("bb", (("", ""),) * 4))

    def test_signs_wait_at_several_passes(self):
        one = Shaper([Pass([Rule(["a", "b"], "ab")]), Pass([Rule(["b", "a"], "k", ["a"])])])
        stands = [fed_with(one, word) for word in ("a", "ab", "aba", "abab")]
        self.assertEqual(stands, [
            ("", (("", "a"), ("", ""))), ("a", (("", ""), ("a", "b"))),
            ("a", (("", "a"), ("a", "b"))), ("ak", (("", ""), ("k", "b")))])
        self.assertEqual([ended(one, stand) for _, stand in stands], ["a", "b", "k", "b"])

    def test_a_pass_makes_several_steps_of_what_comes_at_once(self):
        one = Shaper([Pass([Rule(["x"], "aba")]), Pass([Rule(["a", "b"], "Q"), Rule(["a", "x"], "R")])])
        self.assertEqual(fed_with(one, "x"), ("Q", (("", ""), ("", "a"))))
        self.assertEqual(fed_with(one, "xx"), ("QaQ", (("", ""), ("", "a"))))

    def test_what_was_handed_in_stays(self):
        stand = (("x", "a"),)
        fed(SHOWN, stand, "b")
        ended(SHOWN, stand)
        self.assertEqual(stand, (("x", "a"),))
        self.assertEqual(fed(SHOWN, stand, "b"), ("y", (("y", ""),)))

    def test_by_names(self):
        self.assertEqual(fed(sign="b", stand=(("x", "a"),), shaper=SHOWN), ("y", (("y", ""),)))
        self.assertEqual(ended(stand=(("x", "a"),), shaper=SHOWN), "a")

    def test_what_is_no_sign(self):
        for shaper in (Shaper(), SHOWN, Shaper(SPREAD)):
            for thing in no_texts() + ["", "ab", "aa", "1", " ", "|", "-", "\n", "abc"]:
                self.refused(NoWord, 0, fed, shaper, start(shaper), thing)


class Ended(SeamCase):
    def test_the_passes_end_one_behind_the_other(self):
        one = Shaper([Pass([Rule(["a"], "b", None, ["|"])]), Pass([Rule(["b"], "c", None, ["|"]), Rule(["b"], "d")])])
        self.assertEqual(ended(one, (("", "a"), ("", "b"))), "dc")
        self.assertEqual(ended(one, (("", "b"), ("", ""))), "c")
        self.assertEqual(ended(one, start(one)), "")

    def test_what_was_written_counts(self):
        one = Shaper([Pass([Rule(["a"], "z", ["x"], ["|"])])])
        self.assertEqual(ended(one, (("x", "a"),)), "z")
        self.assertEqual(ended(one, (("y", "a"),)), "a")
        self.assertEqual(ended(one, (("", "a"),)), "a")

    def test_several_steps_with_what_they_write(self):
        one = Shaper([Pass([Rule(["a"], "b", ["|"]), Rule(["a"], "c", ["b"]), Rule(["k"] * 3, "")])])
        self.assertEqual(ended(one, (("", "aa"),)), "bc")


class Joined(SeamCase):
    def check(self, shaper, word):
        told, stand = fed_with(shaper, word)
        self.assertEqual(told + ended(shaper, stand), shaper.row(word))
        for (written, waiting), one in zip(stand, shaper.passes()):
            self.assertLessEqual(len(written), one.back())
            self.assertLess(len(waiting), one.reach())

    def test_shapers_told_here(self):
        for shaper in (Shaper(), SHOWN, EDGES, Shaper(SPREAD), Shaper([Pass()] * 3)):
            for word in words("abx", 5):
                self.check(shaper, word)

    def test_shapers_by_chance(self):
        chance = random.Random(23)
        for _ in range(60):
            shaper = shaper_by(chance, most=4)
            for word in words("abc", 4):
                self.check(shaper, word)

    def test_words_of_a_thousand_signs(self):
        chance = random.Random(24)
        for shaper in [EDGES, SHOWN] + [shaper_by(chance) for _ in range(10)]:
            self.check(shaper, "".join(chance.choice("abcx") for _ in range(1000)))
        self.check(Shaper(SPREAD), "abcd" * 250)


class StandsOf(SeamCase):
    def test_without_passes(self):
        self.assertEqual(stands_of(Shaper(), "ba"), [((), "", [("b", 0), ("a", 0)])])
        self.assertEqual(stands_of(Shaper([Pass()]), "a"), [((("", ""),), "", [("a", 0)])])

    def test_the_document_s_example(self):
        self.assertEqual(stands_of(SHOWN, "xb"), [
            ((("", ""),), "", [("", 1), ("", 2)]),
            ((("", "x"),), "x", [("x", 3), ("x", 4)]),
            ((("", "b"),), "b", [("b", 5), ("b", 6)]),
            ((("x", "x"),), "x", [("x", 3), ("x", 4)]),
            ((("x", "b"),), "b", [("b", 5), ("y", 7)]),
            ((("b", "x"),), "x", [("x", 3), ("x", 4)]),
            ((("b", "b"),), "b", [("b", 5), ("b", 6)]),
            ((("y", ""),), "", [("", 8), ("", 9)]),
            ((("y", "x"),), "x", [("x", 3), ("x", 4)]),
            ((("y", "b"),), "b", [("b", 5), ("b", 6)]),
        ])

    def test_the_letters_own_order_counts(self):
        self.assertEqual([stand for stand, _, _ in stands_of(SHOWN, "bx")][:3],
                         [(("", ""),), (("", "b"),), (("", "x"),)])
        self.assertEqual(stands_of(EDGES, "ba")[0][2], [("", 1), ("", 2)])

    def test_held_against_start_fed_and_ended(self):
        chance = random.Random(25)
        shapers = [shaper_by(chance) for _ in range(60)] + [EDGES, SHOWN, Shaper(SPREAD)]
        held = 0
        for shaper in shapers:
            for letters in ("ab", "ba", "cab"):
                try:
                    told = stands_of(shaper, letters)
                except TooMuch:
                    continue
                stands = [stand for stand, _, _ in told]
                self.assertEqual(stands, stands_by_feeding(shaper, letters))
                for stand, end, ways in told:
                    self.assertEqual(end, ended(shaper, stand))
                    self.assertEqual([(text, stands[goal]) for text, goal in ways],
                                     [fed(shaper, stand, letter) for letter in letters])
                held += 1
        self.assertGreater(held, 100)

    def test_in_the_order_of_the_first_words(self):
        for letters in ("ab", "ba"):
            found = []
            for word in words(letters, 8):
                stand = fed_with(EDGES, word)[1]
                if stand not in found:
                    found.append(stand)
            self.assertEqual([stand for stand, _, _ in stands_of(EDGES, letters)], found)

    def test_kinds(self):
        for stand, end, ways in stands_of(EDGES, "ab"):
            self.assertEqual([type(end), type(stand), type(ways)], [str, tuple, list])
            self.assertEqual([type(way) for way in ways], [tuple, tuple])
        self.assertEqual({type(row) for row in stands_of(EDGES, "ab")}, {tuple})

    def test_what_is_told_is_the_askers_own(self):
        first = stands_of(SHOWN, "xb")
        kept = str(first)
        first[0][2].append(("a", 0))
        first[1][2].clear()
        first.clear()
        self.assertEqual(str(stands_of(SHOWN, "xb")), kept)

    def test_by_names(self):
        self.assertEqual(stands_of(letters="xb", shaper=SHOWN), stands_of(SHOWN, "xb"))

    def test_just_two_hundred_are_told(self):
        told = stands_of(STANDS_200, ALL_G)
        self.assertEqual(len(told), 200)
        self.assertEqual([stand for stand, _, _ in told], stands_by_feeding(STANDS_200, ALL_G))

    def test_more_are_too_many(self):
        self.assertEqual(len(stands_by_feeding(STANDS_201, ALL_H)), 201)
        self.refused(TooMuch, 200, stands_of, STANDS_201, ALL_H)
        long = Shaper([Pass([Rule(["a"] * 3, "", None, ["a"] * 2)])])
        self.refused(TooMuch, 200, stands_of, long, "abcdefghijklmnop")

    def test_letters_are_refused_ahead_of_all_else(self):
        for letters in no_letters():
            for shaper in (Shaper(), SHOWN, STANDS_201):
                self.refused(NoRule, "letters", stands_of, shaper, letters)

    def test_sixteen_letters(self):
        self.assertEqual(len(stands_of(Shaper([Pass([Rule(["a"], "b", ["c"])])]), "abcdefghijklmnop")), 17)


if __name__ == "__main__":
    unittest.main()
