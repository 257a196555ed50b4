"""[20] to [22]: shapers."""

import itertools
import unittest

from markseam.errors import NoPlace, NoRule, NoWord, TooMuch
from markseam.passes import Pass
from markseam.rules import Rule
from markseam.shaper import Shaper
from tests.helpers import SIGNS, SeamCase, no_lists, no_texts, no_wholes

JOIN = Rule(["f", "i"], "F")
LOSE = Rule(["b"], "")
PART = Rule(["x"], "yz")
TURN = Rule(["a", "c"], "ca")
AFTER = Rule(["F", "y"], "Q")
MIXED = Shaper([Pass([JOIN, LOSE, PART, TURN]), Pass([AFTER]), Pass([Rule(["zc"], "")])])


def spread(many):
    """A shaper in which each sign becomes three in each pass."""
    return Shaper([Pass([Rule(["a"], "aaa")])] * many)


class MakeShaper(SeamCase):
    def test_left_out_none_and_empty_are_alike(self):
        for one in (Shaper(), Shaper(None), Shaper([]), Shaper(passes=None), Shaper(passes=[])):
            self.assertEqual((one.passes(), len(one)), ([], 0))
            self.assertEqual(one, Shaper())

    def test_one_and_four(self):
        self.assertEqual(Shaper([Pass([JOIN])]).passes(), [Pass([JOIN])])
        four = [Pass([Rule(["a"], sign)]) for sign in "abcd"]
        self.assertEqual((Shaper(four).passes(), len(Shaper(four))), (four, 4))
        self.assertEqual(Shaper(passes=four), Shaper(four))

    def test_five_are_too_many(self):
        self.refused(NoRule, "passes", Shaper, [Pass()] * 5)
        self.refused(NoRule, "passes", Shaper, [Pass()] * 50)

    def test_no_list(self):
        for thing in no_lists() + [Pass(), (Pass(),), {0: Pass()}]:
            self.refused(NoRule, "passes", Shaper, thing)

    def test_list_with_what_is_no_pass(self):
        for thing in no_texts() + [JOIN, [JOIN], Shaper(), Pass]:
            self.refused(NoRule, "passes", Shaper, [thing])
            self.refused(NoRule, "passes", Shaper, [Pass(), thing])
            self.refused(NoRule, "passes", Shaper, [thing, Pass()])

    def test_what_is_handed_in_stays_and_is_not_kept(self):
        passes = [Pass([JOIN]), Pass()]
        one = Shaper(passes)
        self.assertEqual(passes, [Pass([JOIN]), Pass()])
        passes[0] = Pass()
        self.assertEqual(one.row("fi"), "F")
        passes.clear()
        self.assertEqual((len(one), one.row("fi")), (2, "F"))

    def test_what_is_told_is_the_askers_own(self):
        one = Shaper([Pass([JOIN])])
        one.passes().clear()
        one.passes()[0].rules().clear()
        self.assertEqual(one.passes(), [Pass([JOIN])])
        self.assertEqual(one.row("fi"), "F")

    def test_equal(self):
        self.assertIs(Shaper([Pass([JOIN]), Pass()]) == Shaper([Pass([JOIN]), Pass()]), True)
        self.assertIs(Shaper([Pass([JOIN]), Pass()]) != Shaper([Pass([JOIN]), Pass()]), False)
        for passes in ([], [Pass([JOIN])], [Pass(), Pass([JOIN])], [Pass([LOSE]), Pass()], [Pass([JOIN])] * 2):
            self.assertIs(Shaper([Pass([JOIN]), Pass()]) == Shaper(passes), False)
            self.assertIs(Shaper([Pass([JOIN]), Pass()]) != Shaper(passes), True)

    def test_nothing_that_is_no_shaper_is_equal(self):
        for thing in no_texts() + [Pass(), [Pass()]]:
            self.assertIs(Shaper() == thing, False)
            self.assertIs(Shaper([Pass()]) == thing, False)
            self.assertIs(Shaper() != thing, True)


class Row(SeamCase):
    def test_without_passes(self):
        for word in ("", "a", "fib", SIGNS):
            self.assertEqual(Shaper().row(word), word)
            self.assertEqual(Shaper([Pass()] * 4).row(word), word)

    def test_passes_one_behind_the_other(self):
        one = Shaper([Pass([Rule(["a"], "b")]), Pass([Rule(["b"], "c")])])
        self.assertEqual(one.row("abc"), "ccc")
        self.assertEqual(one.exchanged(0).row("abc"), "bcc")

    def test_each_pass_goes_over_what_the_one_ahead_wrote(self):
        one = Shaper([Pass([PART]), Pass([Rule(["z"], "p", ["y"], ["y"])]), Pass([Rule(["p", "y"], "q")])])
        self.assertEqual(one.row("xx"), "yqz")
        self.assertEqual(one.row("x"), "yz")

    def test_four_passes(self):
        steps = [Pass([Rule([one], other)]) for one, other in ("ab", "bc", "cd", "de")]
        self.assertEqual(Shaper(steps).row("abcd"), "eeee")
        self.assertEqual(Shaper(steps[::-1]).row("abcd"), "bcde")

    def test_long_words(self):
        self.assertEqual(spread(4).row("a" * 1000), "a" * 81000)
        self.assertEqual(Shaper([Pass([JOIN])]).row("fi" * 500), "F" * 500)

    def test_what_was_told_may_be_handed_in_again(self):
        row = spread(3).row("a" * 1000)
        self.assertEqual(len(spread(1).row(row)), 81000)

    def test_by_name(self):
        self.assertEqual(MIXED.row(word="fi"), "F")

    def test_refused(self):
        for one in (Shaper(), MIXED):
            for call in (one.row, one.glyphs, one.trail):
                self.refused(NoWord, 0, call, "|")
                self.refused(NoWord, 2, call, "fi1 ")
                for thing in no_texts():
                    self.refused(NoWord, -1, call, thing)


class Glyphs(SeamCase):
    def test_without_passes(self):
        self.assertEqual(Shaper().glyphs(""), [])
        self.assertEqual(Shaper().glyphs("aba"), [("a", [0]), ("b", [1]), ("a", [2])])

    def test_joined_parted_turned_and_vanished(self):
        one = Shaper([Pass([JOIN, LOSE, PART, TURN])])
        self.assertEqual(one.glyphs("fi"), [("F", [0, 1])])
        self.assertEqual(one.glyphs("afi"), [("a", [0]), ("F", [1, 2])])
        self.assertEqual(one.glyphs("x"), [("y", [0]), ("z", [0])])
        self.assertEqual(one.glyphs("ac"), [("c", [0, 1]), ("a", [0, 1])])
        self.assertEqual(one.glyphs("aba"), [("a", [0]), ("a", [2])])
        self.assertEqual(one.glyphs("bb"), [])

    def test_over_several_passes(self):
        self.assertEqual(MIXED.glyphs("fix"), [("Q", [0, 1, 2])])
        self.assertEqual(MIXED.glyphs("bfibxbc"), [("Q", [1, 2, 4])])
        self.assertEqual(MIXED.glyphs("fia"), [("F", [0, 1]), ("a", [2])])

    def test_signs_that_share_places_are_joined(self):
        one = Shaper([Pass([PART]), Pass([Rule(["y", "z"], "k")]), Pass([Rule(["k"], "uvw")])])
        self.assertEqual(one.glyphs("xax"), [("u", [0]), ("v", [0]), ("w", [0]), ("a", [1]),
                                             ("u", [2]), ("v", [2]), ("w", [2])])
        one = Shaper([Pass([TURN]), Pass([Rule(["a", "c"], "p")])])
        self.assertEqual(one.glyphs("acac"), [("c", [0, 1]), ("p", [0, 1, 2, 3]), ("a", [2, 3])])

    def test_places_rise_far_from_the_begin(self):
        one = Shaper([Pass([JOIN])])
        for many in range(70):
            self.assertEqual(one.glyphs("a" * many + "fi")[-1], ("F", [many, many + 1]))

    def test_what_stands_ahead_and_behind_is_not_led_to(self):
        one = Shaper([Pass([Rule(["a"], "q", ["b"], ["c"])])])
        self.assertEqual(one.glyphs("bac"), [("b", [0]), ("q", [1]), ("c", [2])])

    def test_of_all_short_words(self):
        shapers = [MIXED, spread(2), Shaper([Pass([TURN, LOSE]), Pass([Rule(["ac", "ab", "c"], "bac", ["c"])])])]
        for one in shapers:
            for many in range(6):
                for signs in itertools.product("abcx", repeat=many):
                    self.check_glyphs(one, "".join(signs))

    def check_glyphs(self, one, word):
        told = one.glyphs(word)
        self.assertEqual("".join(sign for sign, places in told), one.row(word))
        for sign, places in told:
            self.assertTrue(places)
            self.assertEqual(places, sorted(set(places)))
        for (_, left), (_, right) in zip(told, told[1:]):
            self.assertLessEqual(left[0], right[0])
            self.assertLessEqual(left[-1], right[-1])
        for place in range(len(word)):
            signs = [k for k, (sign, places) in enumerate(told) if place in places]
            self.assertEqual(one.signs_of(word, place), signs)

    def test_what_is_told_is_the_askers_own(self):
        one = Shaper([Pass([PART])])
        told = one.glyphs("xa")
        self.assertEqual([type(glyph) for glyph in told], [tuple] * 3)
        told[0][1].append(7)
        self.assertEqual(told, [("y", [0, 7]), ("z", [0]), ("a", [1])])
        told[2][1].clear()
        told.clear()
        self.assertEqual(one.glyphs("xa"), [("y", [0]), ("z", [0]), ("a", [1])])

    def test_long_words(self):
        told = spread(3).glyphs("a" * 1000)
        self.assertEqual(told, [("a", [k // 27]) for k in range(27000)])

    def test_by_name(self):
        self.assertEqual(MIXED.glyphs(word="a"), [("a", [0])])


class SignsOf(SeamCase):
    def test_for_each_place(self):
        one = Shaper([Pass([JOIN, LOSE, PART])])
        self.assertEqual([one.signs_of("afibx", place) for place in range(5)], [[0], [1], [1], [], [2, 3]])

    def test_for_a_place_whose_signs_have_all_vanished(self):
        self.assertEqual(Shaper([Pass([PART]), Pass([Rule(["yz"], "")])]).signs_of("ax", 1), [])
        self.assertEqual(Shaper([Pass([PART]), Pass([Rule(["y"], "")])]).signs_of("ax", 1), [1])

    def test_refused(self):
        for place in [-1, 3, 4, 10 ** 30, -10 ** 30] + no_wholes():
            self.refused(NoPlace, place, MIXED.signs_of, "abc", place)
            self.refused(NoPlace, place, Shaper().signs_of, "abc", place)
        for place in (-1, 0, 1, True, False, None):
            self.refused(NoPlace, place, MIXED.signs_of, "", place)

    def test_refused_by_the_word_first(self):
        self.refused(NoWord, 1, MIXED.signs_of, "a1", 5)
        for thing in no_texts():
            self.refused(NoWord, -1, MIXED.signs_of, thing, -1)

    def test_by_names(self):
        self.assertEqual(MIXED.signs_of(place=1, word="fi"), [0])

    def test_long_word(self):
        self.assertEqual(spread(1).signs_of("a" * 1000, 999), [2997, 2998, 2999])


class Trail(SeamCase):
    def test_without_passes_and_without_rules(self):
        self.assertEqual(Shaper().trail("abc"), [])
        self.assertEqual(Shaper().trail(""), [])
        self.assertEqual(Shaper([Pass(), Pass()]).trail("ab"), [[(0, None), (1, None)]] * 2)
        self.assertEqual(Shaper([Pass(), Pass()]).trail(""), [[], []])

    def test_steps_begin_where_signs_are_taken(self):
        self.assertEqual(MIXED.trail("fibxac"), [
            [(0, 0), (2, 1), (3, 2), (4, 3)],
            [(0, 0), (2, None), (3, None), (4, None)],
            [(0, None), (1, 0), (2, 0), (3, None)],
        ])

    def test_all_vanish(self):
        self.assertEqual(Shaper([Pass([LOSE]), Pass([JOIN])]).trail("bb"), [[(0, 0), (1, 0)], []])

    def test_the_askers_own(self):
        told = MIXED.trail("fi")
        told[0].clear()
        told.clear()
        self.assertEqual(MIXED.trail("fi"), [[(0, 0)], [(0, None)], [(0, None)]])

    def test_by_name(self):
        self.assertEqual(Shaper([Pass()]).trail(word="a"), [[(0, None)]])

    def test_long_word(self):
        self.assertEqual(len(spread(4).trail("a" * 1000)[3]), 27000)


class Without(SeamCase):
    def setUp(self):
        self.shaper = Shaper([Pass([JOIN, LOSE, PART]), Pass(), Pass([AFTER])])

    def test_each_rule(self):
        self.assertEqual(self.shaper.without(0, 0), Shaper([Pass([LOSE, PART]), Pass(), Pass([AFTER])]))
        self.assertEqual(self.shaper.without(0, 1), Shaper([Pass([JOIN, PART]), Pass(), Pass([AFTER])]))
        self.assertEqual(self.shaper.without(0, 2), Shaper([Pass([JOIN, LOSE]), Pass(), Pass([AFTER])]))

    def test_the_pass_stays_without_rules(self):
        self.assertEqual(self.shaper.without(2, 0), Shaper([Pass([JOIN, LOSE, PART]), Pass(), Pass()]))

    def test_the_shaper_itself_stays(self):
        self.shaper.without(0, 1)
        self.shaper.without(2, 0)
        self.assertEqual(self.shaper, Shaper([Pass([JOIN, LOSE, PART]), Pass(), Pass([AFTER])]))

    def test_no_pass(self):
        for at in [-1, 3, -3, 10 ** 30] + no_wholes():
            for number in (0, -1, True, [], None):
                self.refused(NoPlace, at, self.shaper.without, at, number)
        self.refused(NoPlace, 0, Shaper().without, 0, 1)

    def test_no_rule(self):
        for number in [-1, 3, -3, 10 ** 30] + no_wholes():
            self.refused(NoPlace, number, self.shaper.without, 0, number)
        for number in (-1, 0, 1, False):
            self.refused(NoPlace, number, self.shaper.without, 1, number)
        self.refused(NoPlace, 1, self.shaper.without, 2, 1)

    def test_by_names(self):
        self.assertEqual(self.shaper.without(number=2, at=0), self.shaper.without(0, 2))


class Exchanged(SeamCase):
    def setUp(self):
        self.passes = [Pass([JOIN]), Pass([LOSE]), Pass([PART]), Pass()]

    def test_each_place(self):
        one, two, three, four = self.passes
        shaper = Shaper(self.passes)
        self.assertEqual(shaper.exchanged(0), Shaper([two, one, three, four]))
        self.assertEqual(shaper.exchanged(1), Shaper([one, three, two, four]))
        self.assertEqual(shaper.exchanged(2), Shaper([one, two, four, three]))
        self.assertEqual(shaper.exchanged(at=2), shaper.exchanged(2))
        self.assertEqual(shaper, Shaper(self.passes))

    def test_refused(self):
        for at in [-1, 3, 4, -4, 10 ** 30] + no_wholes():
            self.refused(NoPlace, at, Shaper(self.passes).exchanged, at)
        for many in (0, 1):
            for at in (-1, 0, 1, True, None):
                self.refused(NoPlace, at, Shaper(self.passes[:many]).exchanged, at)


class Then(SeamCase):
    def test_passes_of_both(self):
        one, other = Shaper([Pass([JOIN]), Pass()]), Shaper([Pass([LOSE])])
        self.assertEqual(one.then(other), Shaper([Pass([JOIN]), Pass(), Pass([LOSE])]))
        self.assertEqual(other.then(other=one), Shaper([Pass([LOSE]), Pass([JOIN]), Pass()]))
        self.assertEqual((len(one), len(other)), (2, 1))
        self.assertEqual(one.then(Shaper()), one)
        self.assertEqual(Shaper().then(one), one)
        self.assertEqual(Shaper().then(Shaper()), Shaper())

    def test_with_itself(self):
        one = Shaper([Pass([JOIN]), Pass()])
        self.assertEqual(one.then(one), Shaper([Pass([JOIN]), Pass(), Pass([JOIN]), Pass()]))
        self.assertEqual(len(one), 2)

    def test_at_most_four(self):
        for left, right in itertools.product(range(5), range(5)):
            one, other = Shaper([Pass()] * left), Shaper([Pass()] * right)
            if left + right <= 4:
                self.assertEqual(len(one.then(other)), left + right)
            else:
                self.refused(TooMuch, left + right, one.then, other)

    def test_rows_one_behind_the_other(self):
        one, other = Shaper([Pass([PART])]), Shaper([Pass([Rule(["y"], "k")])])
        for word in ("", "x", "xy", "axy"):
            self.assertEqual(one.then(other).row(word), other.row(one.row(word)))


class Signs(SeamCase):
    def test_without_rules(self):
        self.assertEqual(Shaper().signs("cab"), "abc")
        self.assertEqual(Shaper([Pass()]).signs("aZbA"), "AZab")

    def test_letters_and_what_rules_become(self):
        self.assertEqual(MIXED.signs("fi"), "FQacfiyz")
        self.assertEqual(Shaper([Pass([Rule(["p"], "qBq")]), Pass([Rule(["r"], "Bas")])]).signs("a"), "Baqs")

    def test_places_do_not_count(self):
        self.assertEqual(Shaper([Pass([Rule(["p"], "", ["q"], ["r"])])]).signs("a"), "a")

    def test_by_name(self):
        self.assertEqual(MIXED.signs(letters="fi"), "FQacfiyz")

    def test_each_sign_of_each_row(self):
        signs = MIXED.signs("fibxac")
        for many in range(5):
            for word in itertools.product("fibxac", repeat=many):
                self.assertLessEqual(set(MIXED.row("".join(word))), set(signs))

    def test_refused(self):
        for letters in ["", "aa", "a1", "abcdefghijklmnopq", "|"] + no_texts():
            self.refused(NoRule, "letters", MIXED.signs, letters)
            self.refused(NoRule, "letters", Shaper().signs, letters)


if __name__ == "__main__":
    unittest.main()
