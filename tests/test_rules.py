"""[15] to [18]: rules."""

import itertools
import unittest

from markseam.errors import NoRule
from markseam.rules import Rule
from tests.helpers import SIGNS, SeamCase, no_lists, no_texts

NO_PLACES = ["", "aa", "aba", "1", "a1", "a|", "|a", "||", " ", "a ", "\n", ".", "/", SIGNS + "a"]


def naive_fits(what, behind, ahead, written, waiting):
    """Whether a rule fits, said once more in the words of the document."""
    front = what + [place for place in ahead if place != "|"]
    if len(waiting) < len(front) or ("|" in ahead and len(waiting) > len(front)):
        return False
    if any(waiting[k] not in place for k, place in enumerate(front)):
        return False
    rest = [place for place in behind if place != "|"]
    if len(written) < len(rest) or ("|" in behind and len(written) > len(rest)):
        return False
    return all(written[len(written) - len(rest) + k] in place for k, place in enumerate(rest))


class MakeRule(SeamCase):
    def test_what(self):
        for what in (["a"], ["ab", "c"], ["a", "a", "a"], [SIGNS, SIGNS[::-1], "Zz"]):
            self.assertEqual(Rule(what, "").reach(), len(what))
        for thing in no_lists() + [None]:
            self.refused(NoRule, "what", Rule, thing, "")
        for what in ([], ["a"] * 4, ["a", "b", "c", "d", "e"]):
            self.refused(NoRule, "what", Rule, what, "")

    def test_places_of_what(self):
        for place in NO_PLACES + no_texts() + ["|"]:
            self.refused(NoRule, "what", Rule, [place], "")
            self.refused(NoRule, "what", Rule, [place, "a"], "")
            self.refused(NoRule, "what", Rule, ["a", place], "")
            self.refused(NoRule, "what", Rule, ["a", place, "b"], "")
            self.refused(NoRule, "what", Rule, ["a", "b", place], "")

    def test_becomes(self):
        for text in ("", "a", "Zz", "aaa", "abc"):
            self.assertEqual(Rule(["a"], text).put(), text)
        for text in ["abcd", "a" * 1000, "1", "a1", "1a", "|", "ab|", " ", "a b", "\n"] + no_texts():
            self.refused(NoRule, "becomes", Rule, ["a"], text)

    def test_behind_and_ahead_left_out(self):
        for left in (None, []):
            rule = Rule(["a"], "b", left, left)
            self.assertEqual(rule, Rule(["a"], "b"))
            self.assertEqual((rule.reach(), rule.back()), (1, 0))

    def test_behind(self):
        for behind in (["a"], ["ab", "ba"], ["|"], ["|", "a"], [SIGNS, SIGNS]):
            self.assertEqual(Rule(["a"], "", behind).back(), len(behind))
        for thing in no_lists():
            self.refused(NoRule, "behind", Rule, ["a"], "", thing)
        for behind in (["a"] * 3, ["|", "a", "b"], ["|", "a", "|"], ["a", "|"], ["|", "|"]):
            self.refused(NoRule, "behind", Rule, ["a"], "", behind)
        for place in NO_PLACES + no_texts():
            self.refused(NoRule, "behind", Rule, ["a"], "", [place])
            self.refused(NoRule, "behind", Rule, ["a"], "", [place, "a"])
            self.refused(NoRule, "behind", Rule, ["a"], "", ["a", place])
            self.refused(NoRule, "behind", Rule, ["a"], "", ["|", place])

    def test_ahead(self):
        for ahead in (["a"], ["ab", "ba"], ["|"], ["a", "|"], [SIGNS, SIGNS]):
            self.assertEqual(Rule(["a"], "", None, ahead).reach(), 1 + len(ahead))
        for thing in no_lists():
            self.refused(NoRule, "ahead", Rule, ["a"], "", None, thing)
        for ahead in (["a"] * 3, ["a", "b", "|"], ["|", "a", "|"], ["|", "a"], ["|", "|"]):
            self.refused(NoRule, "ahead", Rule, ["a"], "", None, ahead)
        for place in NO_PLACES + no_texts():
            self.refused(NoRule, "ahead", Rule, ["a"], "", None, [place])
            self.refused(NoRule, "ahead", Rule, ["a"], "", None, [place, "a"])
            self.refused(NoRule, "ahead", Rule, ["a"], "", None, ["a", place])
            self.refused(NoRule, "ahead", Rule, ["a"], "", None, [place, "|"])

    def test_the_first_wrong_thing_is_told(self):
        names = ["what", "becomes", "behind", "ahead"]
        good = {"what": ["a"], "becomes": "b", "behind": ["|"], "ahead": ["|"]}
        wrong = {"what": ["|"], "becomes": "abcd", "behind": ["a", "|"], "ahead": ["|", "a"]}
        for bits in range(1, 16):
            bad = [name for k, name in enumerate(names) if bits >> k & 1]
            self.refused(NoRule, bad[0], Rule, **{**good, **{name: wrong[name] for name in bad}})
            self.refused(NoRule, bad[0], Rule, **{**good, **{name: 7 for name in bad}})

    def test_by_names_in_another_order_and_by_place(self):
        rule = Rule(["ab"], "c", ["|", "d"], ["e"])
        self.assertEqual(rule, Rule(ahead=["e"], behind=["|", "d"], becomes="c", what=["ab"]))

    def test_what_is_handed_in_stays_and_is_not_kept(self):
        what, behind, ahead = ["ba"], ["|", "dc"], ["fe", "|"]
        rule = Rule(what, "g", behind, ahead)
        self.assertEqual((what, behind, ahead), (["ba"], ["|", "dc"], ["fe", "|"]))
        for handed in (what, behind, ahead):
            handed[0] = "z"
            handed.append("y")
        self.assertEqual(rule, Rule(["ab"], "g", ["|", "cd"], ["ef", "|"]))
        for handed in (what, behind, ahead):
            handed.clear()
        self.assertEqual(rule, Rule(["ab"], "g", ["|", "cd"], ["ef", "|"]))
        self.assertEqual((rule.reach(), rule.back()), (3, 2))
        self.assertIs(rule.fits("c", "ae"), True)

    def test_reach_back_and_put(self):
        rule = Rule(["a", "b", "c"], "xyz", ["|", "d"], ["e", "|"])
        self.assertEqual((rule.reach(), rule.back(), rule.put()), (5, 2, "xyz"))
        rule = Rule(["a"], "", ["|"], ["|"])
        self.assertEqual((rule.reach(), rule.back(), rule.put()), (2, 1, ""))


class Fits(SeamCase):
    def test_what_alone(self):
        rule = Rule(["ab", "c"], "")
        for waiting in ("ac", "bc", "acc", "bcab"):
            self.assertIs(rule.fits("", waiting), True)
            self.assertIs(rule.fits("xyz", waiting), True)
        for waiting in ("", "a", "c", "cc", "ab", "aac", "ca"):
            self.assertIs(rule.fits("", waiting), False)
            self.assertIs(rule.fits("ac", waiting), False)

    def test_ahead(self):
        rule = Rule(["a"], "", None, ["bc", "d"])
        for waiting in ("abd", "acd", "abda"):
            self.assertIs(rule.fits("", waiting), True)
        for waiting in ("", "a", "ab", "abc", "add", "bbd", "adb"):
            self.assertIs(rule.fits("", waiting), False)

    def test_behind(self):
        rule = Rule(["a"], "", ["bc", "d"])
        for written in ("bd", "cd", "abd", "dbd"):
            self.assertIs(rule.fits(written, "a"), True)
            self.assertIs(rule.fits(written, "ab"), True)
        for written in ("", "d", "b", "db", "dd", "bda", "bdd", "bc"):
            self.assertIs(rule.fits(written, "a"), False)

    def test_edge_ahead_alone(self):
        rule = Rule(["a"], "", None, ["|"])
        self.assertIs(rule.fits("", "a"), True)
        self.assertIs(rule.fits("xx", "a"), True)
        for waiting in ("", "aa", "ab", "b", "ba"):
            self.assertIs(rule.fits("", waiting), False)

    def test_edge_ahead_behind_a_place(self):
        rule = Rule(["a"], "", None, ["b", "|"])
        self.assertIs(rule.fits("", "ab"), True)
        for waiting in ("", "a", "abb", "aba", "aa", "b"):
            self.assertIs(rule.fits("", waiting), False)

    def test_edge_behind_alone(self):
        rule = Rule(["a"], "", ["|"])
        self.assertIs(rule.fits("", "a"), True)
        self.assertIs(rule.fits("", "ab"), True)
        for written in ("a", "b", "ab"):
            self.assertIs(rule.fits(written, "a"), False)

    def test_edge_behind_ahead_of_a_place(self):
        rule = Rule(["a"], "", ["|", "b"])
        self.assertIs(rule.fits("b", "a"), True)
        for written in ("", "a", "bb", "ab", "cb", "ba"):
            self.assertIs(rule.fits(written, "a"), False)

    def test_edges_on_both_sides(self):
        rule = Rule(["a"], "", ["|"], ["|"])
        self.assertIs(rule.fits("", "a"), True)
        for written, waiting in (("a", "a"), ("", "aa"), ("a", "aa"), ("", "")):
            self.assertIs(rule.fits(written, waiting), False)

    def test_places_of_all_signs(self):
        rule = Rule([SIGNS], "", [SIGNS], [SIGNS])
        for sign in SIGNS:
            self.assertIs(rule.fits(sign, sign + sign), True)
            self.assertIs(rule.fits("", sign + sign), False)
            self.assertIs(rule.fits(sign, sign), False)

    def test_as_the_document_says_of_all_short_texts(self):
        texts = ["".join(signs) for many in range(5) for signs in itertools.product("abc", repeat=many)]
        sides = [[], ["b"], ["ab", "c"]]
        for what, behind, ahead in itertools.product(
                (["a"], ["ab", "bc"]), sides + [["|"], ["|", "ba"]], sides + [["|"], ["ba", "|"]]):
            rule = Rule(what, "", behind, ahead)
            for waiting in texts:
                for written in texts[:40]:
                    self.assertIs(rule.fits(written, waiting), naive_fits(what, behind, ahead, written, waiting))

    def test_long_texts(self):
        rule = Rule(["a"], "", ["b"], ["c"])
        self.assertIs(rule.fits("a" * 30000 + "b", "ac" + "a" * 30000), True)
        self.assertIs(rule.fits("b" * 30000 + "a", "ac" + "a" * 30000), False)

    def test_by_names(self):
        self.assertIs(Rule(["a"], "", ["b"]).fits(waiting="a", written="b"), True)


class EqualRules(SeamCase):
    def test_signs_of_places_in_another_order(self):
        one = Rule(["abc", "de"], "xy", ["|", "fg"], ["hi", "|"])
        self.assertIs(one == Rule(["cab", "ed"], "xy", ["|", "gf"], ["ih", "|"]), True)
        self.assertIs(one != Rule(["cab", "ed"], "xy", ["|", "gf"], ["ih", "|"]), False)

    def test_one_thing_otherwise(self):
        good = {"what": ["ab", "c"], "becomes": "xy", "behind": ["|", "d"], "ahead": ["e", "|"]}
        otherwise = [
            {"what": ["ab"]}, {"what": ["c", "ab"]}, {"what": ["ab", "d"]}, {"what": ["ab", "c", "c"]},
            {"becomes": "yx"}, {"becomes": "x"}, {"becomes": ""}, {"behind": ["d"]}, {"behind": ["|"]},
            {"behind": ["c", "d"]}, {"behind": None}, {"ahead": ["e"]}, {"ahead": ["|"]}, {"ahead": ["e", "f"]},
            {"ahead": []}, {"behind": ["|", "D"]},
        ]
        one = Rule(**good)
        for change in otherwise:
            self.assertIs(one == Rule(**{**good, **change}), False)
            self.assertIs(one != Rule(**{**good, **change}), True)

    def test_places_of_another_kind(self):
        self.assertNotEqual(Rule(["a", "b"], ""), Rule(["a"], "", None, ["b"]))
        self.assertNotEqual(Rule(["a"], "", ["b"]), Rule(["a"], "", None, ["b"]))

    def test_nothing_that_is_no_rule(self):
        for thing in no_texts() + ["/a/>"]:
            self.assertIs(Rule(["a"], "") == thing, False)
            self.assertIs(Rule(["a"], "") != thing, True)


class ShownRules(SeamCase):
    def test_the_documents_examples(self):
        self.assertEqual(str(Rule(["k", "q"], "K", ["|", "ae"], ["i"])), "|.ae/k.q/i>K")
        self.assertEqual(str(Rule(["ab"], "")), "/ab/>")

    def test_signs_are_sorted_as_texts_are(self):
        self.assertEqual(str(Rule(["bAaB", "zyx"], "zaZ", ["qQ"], ["mLkJ", "|"])), "Qq/ABab.xyz/JLkm.|>zaZ")

    def test_parts_left_out(self):
        self.assertEqual(str(Rule(["f", "i"], "F")), "/f.i/>F")
        self.assertEqual(str(Rule(["a"], "b", ["|"])), "|/a/>b")
        self.assertEqual(str(Rule(["a"], "b", None, ["|"])), "/a/|>b")
        self.assertEqual(str(Rule(["a"], "", ["b", "c"], ["d", "e"])), "b.c/a/d.e>")


if __name__ == "__main__":
    unittest.main()
