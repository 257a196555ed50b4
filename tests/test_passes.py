"""[19]: passes."""

import itertools
import unittest

from markseam.errors import NoRule, NoWord
from markseam.passes import Pass
from markseam.rules import Rule
from tests.helpers import SIGNS, SeamCase, no_lists, no_texts

JOIN = Rule(["f", "i"], "F")
LOSE = Rule(["b"], "")
PART = Rule(["x"], "xyz")


def naive_row(rules, text):
    """A pass's row, said once more in the words of the document."""
    written, waiting = "", text
    while waiting:
        for rule, many in rules:
            if rule.fits(written, waiting):
                written, waiting = written + rule.put(), waiting[many:]
                break
        else:
            written, waiting = written + waiting[0], waiting[1:]
    return written


class MakePass(SeamCase):
    def test_left_out_none_and_empty_are_alike(self):
        for one in (Pass(), Pass(None), Pass([]), Pass(rules=None), Pass(rules=[])):
            self.assertEqual((one.rules(), len(one), one.reach(), one.back()), ([], 0, 1, 0))
            self.assertEqual(one, Pass())

    def test_one_and_eight(self):
        self.assertEqual(Pass([JOIN]).rules(), [JOIN])
        eight = [Rule(["a"], sign) for sign in "abcdefgh"]
        one = Pass(eight)
        self.assertEqual((one.rules(), len(one)), (eight, 8))

    def test_nine_are_too_many(self):
        self.refused(NoRule, "rules", Pass, [JOIN] * 9)
        self.refused(NoRule, "rules", Pass, [JOIN] * 100)

    def test_no_list(self):
        for thing in no_lists() + [JOIN, (JOIN,), {0: JOIN}]:
            self.refused(NoRule, "rules", Pass, thing)

    def test_list_with_what_is_no_rule(self):
        for thing in no_texts() + ["/a/>", Pass(), Rule]:
            self.refused(NoRule, "rules", Pass, [thing])
            self.refused(NoRule, "rules", Pass, [JOIN, thing])
            self.refused(NoRule, "rules", Pass, [thing, JOIN])

    def test_what_is_handed_in_stays_and_is_not_kept(self):
        rules = [JOIN, LOSE]
        one = Pass(rules)
        self.assertEqual(rules, [JOIN, LOSE])
        rules[0] = PART
        self.assertEqual(one.rules(), [JOIN, LOSE])
        rules.clear()
        self.assertEqual(one.rules(), [JOIN, LOSE])
        self.assertEqual(one.row("fib"), "F")

    def test_what_is_told_is_the_askers_own(self):
        one = Pass([JOIN, LOSE])
        one.rules().clear()
        self.assertEqual(one.rules(), [JOIN, LOSE])
        self.assertEqual(one.row("fib"), "F")

    def test_reach_and_back_are_the_greatest(self):
        rules = [Rule(["a"], "", ["|", "a"]), Rule(["a", "b", "c"], "", ["b"], ["c", "|"]), Rule(["a", "b"], "")]
        for some in itertools.permutations(rules):
            self.assertEqual((Pass(list(some)).reach(), Pass(list(some)).back()), (5, 2))
        self.assertEqual((Pass([LOSE]).reach(), Pass([LOSE]).back()), (1, 0))


class Step(SeamCase):
    def test_a_sign_is_copied_where_no_rule_fits(self):
        for one in (Pass(), Pass([JOIN]), Pass([Rule(["a"], "", ["b"])])):
            self.assertEqual(one.step("", "a"), (None, 1, "a"))
            self.assertEqual(one.step("xx", "afi"), (None, 1, "a"))

    def test_the_first_rule_that_fits(self):
        one = Pass([Rule(["a"], "p", ["x"]), Rule(["a", "b"], "q"), Rule(["a"], "r"), Rule(["ab"], "s")])
        self.assertEqual(one.step("x", "ab"), (0, 1, "p"))
        self.assertEqual(one.step("y", "ab"), (1, 2, "q"))
        self.assertEqual(one.step("", "abb"), (1, 2, "q"))
        self.assertEqual(one.step("y", "ac"), (2, 1, "r"))
        self.assertEqual(one.step("y", "b"), (3, 1, "s"))
        self.assertEqual(one.step("y", "c"), (None, 1, "c"))

    def test_the_eighth_rule(self):
        one = Pass([Rule([sign], "x") for sign in "abcdefgh"])
        self.assertEqual(one.step("", "h"), (7, 1, "x"))

    def test_it_takes_as_many_as_what_has_places(self):
        one = Pass([Rule(["a", "b", "c"], "", ["x"], ["d", "|"])])
        self.assertEqual(one.step("ax", "abcd"), (0, 3, ""))
        self.assertEqual(one.step("ax", "abcdd"), (None, 1, "a"))
        self.assertEqual(one.step("xa", "abcd"), (None, 1, "a"))

    def test_nothing_waits(self):
        for one in (Pass(), Pass([JOIN])):
            self.refused(NoWord, 0, one.step, "", "")
            self.refused(NoWord, 0, one.step, "abc", "")

    def test_long_texts(self):
        self.assertEqual(Pass([JOIN]).step("f" * 20000, "fi" * 20000), (0, 2, "F"))

    def test_by_names(self):
        self.assertEqual(Pass([Rule(["a"], "", ["b"])]).step(waiting="ac", written="b"), (0, 1, ""))


class Row(SeamCase):
    def test_without_rules(self):
        for text in ("", "a", "abc", SIGNS):
            self.assertEqual(Pass().row(text), text)

    def test_join_part_and_vanish(self):
        one = Pass([JOIN, LOSE, PART])
        rows = [("", ""), ("fi", "F"), ("fifi", "FF"), ("ffii", "fFi"), ("b", ""), ("bbb", ""), ("fbi", "fi"),
                ("x", "xyz"), ("bxfi", "xyzF"), ("xx", "xyzxyz")]
        for text, row in rows:
            self.assertEqual(one.row(text), row)

    def test_no_rule_looks_again_at_what_was_taken(self):
        self.assertEqual(Pass([Rule(["a"], "aa")]).row("aa"), "aaaa")
        self.assertEqual(Pass([Rule(["a", "b"], "a")]).row("abb"), "ab")

    def test_what_stands_behind_is_what_was_written(self):
        one = Pass([Rule(["a"], "b", ["b"])])
        self.assertEqual(one.row("baaa"), "bbbb")
        one = Pass([Rule(["a"], "b", ["a"])])
        self.assertEqual(one.row("aaaa"), "abab")
        one = Pass([LOSE, Rule(["c"], "d", ["|"])])
        self.assertEqual(one.row("bbc"), "d")
        self.assertEqual(one.row("abc"), "ac")

    def test_two_signs_behind_come_of_one(self):
        one = Pass([PART, Rule(["a"], "q", ["y", "z"])])
        self.assertEqual(one.row("xa"), "xyzq")
        self.assertEqual(one.row("yza"), "yzq")
        self.assertEqual(one.row("za"), "za")

    def test_edges(self):
        one = Pass([Rule(["a"], "p", ["|"], ["|"]), Rule(["a"], "q", ["|"]), Rule(["a"], "r", None, ["|"]),
                    Rule(["a"], "s", ["|", "bq"]), Rule(["a"], "t", None, ["c", "|"])])
        rows = [("a", "p"), ("aa", "qr"), ("aaa", "qsr"), ("baa", "bsr"), ("bca", "bcr"), ("bcac", "bctc"),
                ("aac", "qsc"), ("bbac", "bbtc"), ("bbacc", "bbacc")]
        for text, row in rows:
            self.assertEqual(one.row(text), row)

    def test_rules_of_unlike_reach_in_one_pass(self):
        one = Pass([Rule(["a"], "p", None, ["|"]), Rule(["a", "a", "a"], "q", None, ["b", "b"])])
        self.assertEqual(one.row("aaabb"), "qbb")
        self.assertEqual(one.row("aaab"), "aaab")
        self.assertEqual(one.row("aaa"), "aap")

    def test_as_the_document_says_of_all_short_texts(self):
        sets = [
            [(Rule(["ab", "b"], "ca", ["a"]), 2), (Rule(["c"], "", None, ["a"]), 1)],
            [(Rule(["a"], "b", ["|"], ["b"]), 1), (Rule(["b", "c"], "acb", None, ["|"]), 2), (Rule(["b"], "a"), 1)],
            [(Rule(["abc", "a", "b"], "c", ["b", "ac"], ["c"]), 3), (Rule(["c"], "bb", ["|", "c"]), 1)],
        ]
        for rules in sets:
            one = Pass([rule for rule, many in rules])
            for many in range(7):
                for signs in itertools.product("abc", repeat=many):
                    self.assertEqual(one.row("".join(signs)), naive_row(rules, "".join(signs)))

    def test_long_texts(self):
        self.assertEqual(Pass([PART]).row("x" * 27000), "xyz" * 27000)
        self.assertEqual(Pass([JOIN]).row("fi" * 20000), "F" * 20000)

    def test_by_name(self):
        self.assertEqual(Pass([JOIN]).row(text="fi"), "F")


class EqualPasses(SeamCase):
    def test_rules_in_order(self):
        self.assertIs(Pass([JOIN, LOSE]) == Pass([Rule(["f", "i"], "F"), LOSE]), True)
        self.assertIs(Pass([JOIN, LOSE]) != Pass([Rule(["f", "i"], "F"), LOSE]), False)
        for rules in ([], [JOIN], [LOSE, JOIN], [JOIN, LOSE, LOSE], [JOIN, PART]):
            self.assertIs(Pass([JOIN, LOSE]) == Pass(rules), False)
            self.assertIs(Pass([JOIN, LOSE]) != Pass(rules), True)

    def test_nothing_that_is_no_pass(self):
        for thing in no_texts() + [JOIN, [JOIN]]:
            self.assertIs(Pass() == thing, False)
            self.assertIs(Pass([JOIN]) == thing, False)
            self.assertIs(Pass() != thing, True)


if __name__ == "__main__":
    unittest.main()
