"""[11] to [14]: marks in order, and exchanges."""

import itertools
import unittest

from markseam.case import Case, clusters
from markseam.errors import NoPlace, NoWord
from markseam.order import exchanges, ordered, same_marks, settled, turned
from tests.helpers import SeamCase, no_lists, no_texts, no_wholes

# f and g are fore marks, a and b of rank 1, c of rank 2, d of rank 9.
CASE = Case({"f": 0, "g": 0, "a": 1, "b": 1, "c": 2, "d": 9})


def words_of(letters, most):
    for many in range(most + 1):
        for signs in itertools.product(letters, repeat=many):
            yield "".join(signs)


def crossed(order):
    """How many pairs of a list stand the wrong way round."""
    return sum(one > other for one, other in itertools.combinations(order, 2))


def reached(case, word):
    """Each word that exchanges of neighbouring marks of unlike ranks lead to, with how few of them."""
    found = {word: 0}
    queue = [word]
    for text in queue:
        for at in range(len(text) - 1):
            one, other = case.rank_of(text[at]), case.rank_of(text[at + 1])
            new = text[:at] + text[at + 1] + text[at] + text[at + 2:]
            if one is not None and other is not None and one != other and new not in found:
                found[new] = found[text] + 1
                queue.append(new)
    return found


class Ordered(SeamCase):
    def test_examples(self):
        rows = [
            ("", "", []), ("B", "B", [0]), ("BB", "BB", [0, 1]), ("a", "a", [0]),
            ("Bf", "fB", [1, 0]), ("Bdcaf", "fBacd", [4, 0, 3, 2, 1]), ("Bba", "Bba", [0, 1, 2]),
            ("Bab", "Bab", [0, 1, 2]), ("Bgf", "gfB", [1, 2, 0]), ("Bfg", "fgB", [1, 2, 0]),
            ("dcB", "cdB", [1, 0, 2]), ("dfa", "fad", [1, 2, 0]), ("BcaCdf", "BacfCd", [0, 2, 1, 5, 3, 4]),
            ("BafCgcb", "fBagCbc", [2, 0, 1, 4, 3, 6, 5]), ("Bcbcaf", "fBbacc", [5, 0, 2, 4, 1, 3]),
        ]
        for word, text, places in rows:
            self.assertEqual(ordered(CASE, word), (text, places))

    def test_each_rank_in_turn(self):
        case = Case({sign: rank for rank, sign in enumerate("abcdefghij")})
        self.assertEqual(ordered(case, "Bjihgfedcba"), ("aBbcdefghij", [10, 0, *range(9, 0, -1)]))

    def test_once_more_may_be_another_text(self):
        self.assertEqual(ordered(CASE, "BCf")[0], "BfC")
        self.assertEqual(ordered(CASE, "BfC")[0], "fBC")

    def test_case_without_marks(self):
        self.assertEqual(ordered(Case(), "Bdcaf"), ("Bdcaf", [0, 1, 2, 3, 4]))

    def test_all_short_words(self):
        for word in words_of("Bfac", 5):
            text, places = ordered(CASE, word)
            self.assertEqual(sorted(places), list(range(len(word))))
            self.assertEqual(text, "".join(word[place] for place in places))
            for begin, end in clusters(CASE, word):
                kinds = [CASE.rank_of(sign) for sign in text[begin:end]]
                heights = [0.5 if rank is None else rank for rank in kinds]
                self.assertEqual(heights, sorted(heights))
                for rank in set(kinds):
                    part = [at for at in places[begin:end] if CASE.rank_of(word[at]) == rank]
                    self.assertEqual(part, sorted(part))

    def test_long_word(self):
        word = "B" + "d" * 499 + "c" * 500
        self.assertEqual(ordered(CASE, word), ("B" + "c" * 500 + "d" * 499, [0, *range(500, 1000), *range(1, 500)]))

    def test_what_is_told_is_the_askers_own(self):
        told = ordered(CASE, "Bca")
        self.assertIs(type(told), tuple)
        self.assertIs(type(told[1]), list)
        told[1].clear()
        self.assertEqual(ordered(CASE, "Bca"), ("Bac", [0, 2, 1]))

    def test_by_names(self):
        self.assertEqual(ordered(word="Bf", case=CASE), ("fB", [1, 0]))

    def test_refused(self):
        self.refused(NoWord, 1, ordered, CASE, "a1b")
        for thing in no_texts():
            self.refused(NoWord, -1, ordered, CASE, thing)


class Turned(SeamCase):
    def test_some(self):
        rows = [("", [], ""), ("a", [], "a"), ("ab", [], "ab"), ("ab", [0], "ba"), ("abc", [0, 1], "bca"),
                ("abc", [1, 0], "cab"), ("abc", [1, 1], "abc"), ("abc", [0, 0, 0], "bac"), ("aab", [0], "aab"),
                ("abcd", [2, 1, 0, 2, 1, 2], "dcba")]
        for word, row, text in rows:
            self.assertEqual(turned(word, row), text)

    def test_the_row_stays(self):
        row = [0, 1, 0]
        self.assertEqual(turned("abc", row), "cba")
        self.assertEqual(row, [0, 1, 0])

    def test_by_names(self):
        self.assertEqual(turned(row=[0], word="ab"), "ba")

    def test_long(self):
        self.assertEqual(turned("a" + "b" * 999, list(range(999))), "b" * 999 + "a")

    def test_refused_by_the_word_first(self):
        self.refused(NoWord, 2, turned, "ab1", None)
        self.refused(NoWord, 0, turned, "|", [5])
        for thing in no_texts():
            self.refused(NoWord, -1, turned, thing, 5)

    def test_no_list(self):
        for thing in no_lists() + [None]:
            self.refused(NoPlace, -1, turned, "abc", thing)
            self.refused(NoPlace, -1, turned, "", thing)

    def test_things_that_are_no_places(self):
        for thing in [-1, 2, 3, 10 ** 30] + no_wholes():
            self.refused(NoPlace, 0, turned, "abc", [thing])
            self.refused(NoPlace, 0, turned, "abc", [thing, None])
            self.refused(NoPlace, 2, turned, "abc", [0, 1, thing, 0, thing])

    def test_words_in_which_no_place_is_good(self):
        for word in ("", "a"):
            for thing in (-1, 0, 1, True, None):
                self.refused(NoPlace, 0, turned, word, [thing])
        self.assertEqual(turned("ab", [0]), "ba")
        self.refused(NoPlace, 0, turned, "ab", [1])


class Exchanges(SeamCase):
    def test_none_are_needed(self):
        for word in ("", "B", "a", "fBacd", "BCB", "Baab"):
            if ordered(CASE, word)[0] == word:
                self.assertEqual(exchanges(CASE, word), [])

    def test_all_short_words(self):
        for word in [*words_of("Bfac", 5), "Bdcaf", "dcbafg", "BdfcCgacbfdda"]:
            text, places = ordered(CASE, word)
            row = exchanges(CASE, word)
            self.assertIs(type(row), list)
            self.assertEqual(turned(word, row), text)
            self.assertEqual(len(row), crossed(places))

    def test_fewest_there_are(self):
        for word in words_of("Bfa", 4):
            goal = ordered(CASE, word)[0]
            few = {word: 0}
            queue = [word]
            for text in queue:
                for at in range(len(text) - 1):
                    new = turned(text, [at])
                    if new not in few:
                        few[new] = few[text] + 1
                        queue.append(new)
            self.assertEqual(len(exchanges(CASE, word)), few[goal])

    def test_long_word(self):
        word = "d" * 500 + "a" * 500
        row = exchanges(CASE, word)
        self.assertEqual(len(row), 250000)
        self.assertEqual(turned(word, row), "a" * 500 + "d" * 500)

    def test_what_is_told_is_the_askers_own(self):
        exchanges(CASE, "Bca").clear()
        self.assertEqual(exchanges(CASE, "Bca"), [1])

    def test_by_names(self):
        self.assertEqual(exchanges(word="Bf", case=CASE), [0])

    def test_refused(self):
        self.refused(NoWord, 1, exchanges, CASE, "a1b")
        for thing in no_texts():
            self.refused(NoWord, -1, exchanges, CASE, thing)


class Settled(SeamCase):
    def test_examples(self):
        rows = [("", ""), ("B", "B"), ("Bf", "Bf"), ("Bcaf", "Bfac"), ("cafB", "facB"), ("BbaCdg", "BbaCgd"),
                ("Bab", "Bab"), ("Bfg", "Bfg"), ("Bgf", "Bgf"), ("Bfagb", "Bfgab")]
        for word, text in rows:
            self.assertEqual(settled(CASE, word), text)

    def test_settled_once_more_is_the_same(self):
        for word in words_of("Bfac", 5):
            text = settled(CASE, word)
            self.assertEqual(settled(CASE, text), text)
            self.assertEqual(clusters(CASE, text), clusters(CASE, word))

    def test_by_names(self):
        self.assertEqual(settled(word="Bca", case=CASE), "Bac")

    def test_long_word(self):
        self.assertEqual(settled(CASE, "B" + "d" * 500 + "a" * 499), "B" + "a" * 499 + "d" * 500)

    def test_refused(self):
        self.refused(NoWord, 0, settled, CASE, "1")
        for thing in no_texts():
            self.refused(NoWord, -1, settled, CASE, thing)


class SameMarks(SeamCase):
    def check_row(self, one, other, row):
        text = one
        for at in row:
            ranks = (CASE.rank_of(text[at]), CASE.rank_of(text[at + 1]))
            self.assertNotIn(None, ranks)
            self.assertNotEqual(ranks[0], ranks[1])
            text = turned(text, [at])
        self.assertEqual(text, other)

    def test_all_pairs_of_short_words(self):
        for many in range(6):
            words = ["".join(signs) for signs in itertools.product("Bfac", repeat=many)]
            for one in words if many < 5 else words[::7]:
                few = reached(CASE, one)
                for other in few:
                    told, row = same_marks(CASE, one, other)
                    self.assertEqual(told, "same")
                    self.assertEqual(len(row), few[other])
                    self.check_row(one, other, row)

    def test_marks_of_one_rank_stay_as_they_stand(self):
        words = list(words_of("Bab", 4)) + list(words_of("Bfg", 4))
        for one in words:
            for other in words:
                self.assertEqual(same_marks(CASE, one, other)[0], "same" if one == other else "unlike")

    def test_same_just_where_exchanges_lead_there(self):
        words = list(words_of("Bfca", 4))
        for one in words:
            few = reached(CASE, one)
            for other in words:
                same = same_marks(CASE, one, other)[0] == "same"
                self.assertEqual(same, other in few)
                self.assertEqual(same, settled(CASE, one) == settled(CASE, other))
                alike = (clusters(CASE, one) == clusters(CASE, other)
                         and ordered(CASE, one)[0] == ordered(CASE, other)[0])
                self.assertEqual(same, alike)

    def test_the_same_word(self):
        for word in ("", "B", "a", "Bdcafa", "fafa"):
            self.assertEqual(same_marks(CASE, word, word), ("same", []))

    def test_as_many_as_pairs_stand_otherwise(self):
        rows = [("Bac", "Bca", 1), ("Bfac", "Bcaf", 3), ("acac", "ccaa", 3), ("acac", "caca", 2),
                ("Bfg" + "ab", "Bab" + "fg", 4), ("BacCac", "BcaCca", 2), ("dcafB", "facdB", 6)]
        for one, other, many in rows:
            for here, there in ((one, other), (other, one)):
                told, row = same_marks(CASE, here, there)
                self.assertEqual((told, len(row)), ("same", many))
                self.check_row(here, there, row)

    def test_unlike_at_the_first_place_where_both_settled_differ(self):
        rows = [("B", "C", 0), ("Ba", "Bb", 1), ("Bab", "Bba", 1), ("Bca", "Bcb", 1), ("Bcaf", "Bcbf", 2),
                ("BaC", "BCa", 1), ("Bf", "fB", 0), ("BaCb", "BaCa", 3), ("Bda", "Bdc", 1), ("BdCa", "BdCc", 3)]
        for one, other, at in rows:
            self.assertEqual(same_marks(CASE, one, other), ("unlike", at))
            self.assertEqual(same_marks(CASE, other, one), ("unlike", at))

    def test_unlike_where_one_settled_is_a_beginning_of_the_other(self):
        rows = [("", "B", 0), ("B", "BC", 1), ("B", "Ba", 1), ("Bca", "Bcad", 3), ("a", "aB", 1), ("Bac", "BcaB", 3)]
        for one, other, at in rows:
            self.assertEqual(same_marks(CASE, one, other), ("unlike", at))
            self.assertEqual(same_marks(CASE, other, one), ("unlike", at))

    def test_unlike_words_of_all_pairs(self):
        words = list(words_of("Bca", 4))
        for one in words:
            for other in words:
                told, at = same_marks(CASE, one, other)
                if told == "unlike":
                    here, there = settled(CASE, one), settled(CASE, other)
                    self.assertEqual(here[:at], there[:at])
                    self.assertNotEqual(here[at:at + 1], there[at:at + 1])

    def test_long_words(self):
        one, other = "B" + "a" * 500 + "d" * 499, "B" + "d" * 499 + "a" * 500
        told, row = same_marks(CASE, one, other)
        self.assertEqual((told, len(row)), ("same", 499 * 500))
        self.assertEqual(turned(one, row), other)
        self.assertEqual(same_marks(CASE, one, one[:-1]), ("unlike", 999))

    def test_what_is_told_is_the_askers_own(self):
        told = same_marks(CASE, "Bac", "Bca")
        self.assertIs(type(told), tuple)
        told[1].clear()
        self.assertEqual(same_marks(CASE, "Bac", "Bca"), ("same", [1]))

    def test_by_names(self):
        self.assertEqual(same_marks(other="Bca", one="Bac", case=CASE), ("same", [1]))

    def test_refused_by_one_then_by_other(self):
        self.refused(NoWord, 1, same_marks, CASE, "a1", "11")
        self.refused(NoWord, 1, same_marks, CASE, "a1", None)
        self.refused(NoWord, 0, same_marks, CASE, "aa", "11")
        for thing in no_texts():
            self.refused(NoWord, -1, same_marks, CASE, thing, "1")
            self.refused(NoWord, -1, same_marks, CASE, "a", thing)


if __name__ == "__main__":
    unittest.main()
