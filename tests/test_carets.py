"""[51] to [54]: carets."""

import random
import unittest

from markseam.carets import caret, hit, spans, stops
from markseam.case import Case, clusters
from markseam.errors import NoPlace, NoWord
from markseam.passes import Pass
from markseam.places import width
from markseam.rules import Rule
from markseam.script import Script
from markseam.shaper import Shaper
from tests.helpers import SeamCase, no_texts, no_wholes, script_by, word_by, words

# f is a fore mark, e a hung mark; A and B join, three Cs join, K vanishes, D parts.
CASE = Case({"f": 0, "e": 1}, {"f": 10, "X": 701, "Y": 1000, "D": 0, "d": 3})
HAND = Script(CASE, Shaper([Pass([Rule(["A", "B"], "X"), Rule(["C", "C", "C"], "Y"), Rule(["K"], ""),
                                  Rule(["D"], "dd")])]))
PLAIN = Script(CASE, Shaper())


def spans_by_places(hand, word):
    """The spans, as each place is asked for by itself."""
    if word == "":
        return []
    leads = [letters for _, letters in hand.glyphs(word)]
    clean = [0]
    for begin, _ in clusters(hand.case, word)[1:]:
        if not any(min(letters) < begin <= max(letters) for letters in leads):
            clean.append(begin)
    clean.append(len(word))
    told = []
    for begin, end in zip(clean, clean[1:]):
        numbers = [number for number, letters in enumerate(leads) if any(begin <= at < end for at in letters)]
        if numbers:
            told.append((begin, end, numbers[0], numbers[-1] + 1))
        else:
            many = sum(any(at < begin for at in letters) for letters in leads)
            told.append((begin, end, many, many))
    return told


def stops_by_spans(hand, word):
    """The stops, as 52 tells them."""
    row = hand.row(word)
    told = []
    for begin, end, first, last in spans_by_places(hand, word):
        ahead, wide = width(hand.case, row[:first]), width(hand.case, row[first:last])
        places = [at for at, _ in clusters(hand.case, word) if begin <= at < end]
        for j, at in enumerate(places):
            told.append((at, ahead + wide * j // len(places)))
    return told + [(len(word), width(hand.case, row))]


class Spans(SeamCase):
    def test_none(self):
        self.assertEqual(spans(HAND, ""), [])

    def test_no_cluster_joins(self):
        self.assertEqual(spans(HAND, "BAeC"), [(0, 1, 0, 1), (1, 3, 1, 3), (3, 4, 3, 4)])
        self.assertEqual(spans(PLAIN, "AfB"), [(0, 2, 0, 2), (2, 3, 2, 3)])

    def test_all_clusters_join(self):
        self.assertEqual(spans(HAND, "AB"), [(0, 2, 0, 1)])
        self.assertEqual(spans(HAND, "CCC"), [(0, 3, 0, 1)])

    def test_several(self):
        self.assertEqual(spans(HAND, "DABeCCCe"), [(0, 1, 0, 2), (1, 4, 2, 4), (4, 8, 4, 6)])
        self.assertEqual(spans(HAND, "ABAB"), [(0, 2, 0, 1), (2, 4, 1, 2)])

    def test_clusters_whose_letters_all_vanish(self):
        self.assertEqual(spans(HAND, "K"), [(0, 1, 0, 0)])
        self.assertEqual(spans(HAND, "AKKB"), [(0, 1, 0, 1), (1, 2, 1, 1), (2, 3, 1, 1), (3, 4, 1, 2)])
        self.assertEqual(spans(HAND, "DK"), [(0, 1, 0, 2), (1, 2, 2, 2)])

    def test_a_mark_that_stays_where_the_base_vanishes(self):
        self.assertEqual(spans(HAND, "KeA"), [(0, 2, 0, 1), (2, 3, 1, 2)])

    def test_joined_over_a_cluster_that_vanished(self):
        hand = Script(Case(), Shaper([Pass([Rule(["K"], "")]), Pass([Rule(["A", "B"], "X")])]))
        self.assertEqual(spans(hand, "AKB"), [(0, 3, 0, 1)])
        self.assertEqual(spans(hand, "KAKKBK"), [(0, 1, 0, 0), (1, 5, 0, 1), (5, 6, 1, 1)])

    def test_a_word_that_begins_with_marks(self):
        self.assertEqual(spans(HAND, "eA"), [(0, 1, 0, 1), (1, 2, 1, 2)])
        self.assertEqual(spans(HAND, "ee"), [(0, 2, 0, 2)])

    def test_by_chance(self):
        chance = random.Random(51)
        for _ in range(800):
            hand = script_by(chance)
            word = word_by(chance, "abc", 9)
            self.assertEqual(spans(hand, word), spans_by_places(hand, word))

    def test_end_to_end(self):
        chance = random.Random(52)
        for _ in range(400):
            hand = script_by(chance, "abcd")
            word = word_by(chance, "abcd", 12)
            told = spans(hand, word)
            self.assertEqual([end for _, end, _, _ in [(0, 0, 0, 0)] + told], [begin for begin, _, _, _ in told] +
                             [len(word)])
            self.assertEqual([last for _, _, _, last in [(0, 0, 0, 0)] + told], [first for _, _, first, _ in told] +
                             [len(hand.row(word))])

    def test_the_list_is_new(self):
        spans(HAND, "AB").clear()
        self.assertEqual(spans(HAND, "AB"), [(0, 2, 0, 1)])
        self.assertEqual({type(one) for one in spans(HAND, "ABC")}, {tuple})


class Stops(SeamCase):
    def test_none(self):
        self.assertEqual(stops(HAND, ""), [(0, 0)])

    def test_no_cluster_joins(self):
        self.assertEqual(stops(HAND, "BAeC"), [(0, 0), (1, 500), (3, 1000), (4, 1500)])
        self.assertEqual(stops(PLAIN, "AfBee"), [(0, 0), (2, 510), (5, 1010)])

    def test_shares_are_rounded_down(self):
        self.assertEqual(stops(HAND, "AB"), [(0, 0), (1, 350), (2, 701)])
        self.assertEqual(stops(HAND, "CCC"), [(0, 0), (1, 333), (2, 666), (3, 1000)])
        self.assertEqual(stops(HAND, "ABAB"), [(0, 0), (1, 350), (2, 701), (3, 1051), (4, 1402)])
        self.assertEqual(stops(HAND, "DABCCC"), [(0, 0), (1, 6), (2, 356), (3, 707), (4, 1040), (5, 1373), (6, 1707)])

    def test_of_the_span_and_not_of_its_first_sign(self):
        # The fore mark of B stands ahead of it, and so A and B join over both clusters with it.
        hand = Script(CASE, Shaper([Pass([Rule(["A", "f", "B"], "Xff")])]))
        self.assertEqual(hand.row("ABf"), "Xff")
        self.assertEqual(stops(hand, "ABf"), [(0, 0), (1, 360), (3, 721)])

    def test_clusters_that_vanish(self):
        self.assertEqual(stops(HAND, "AKKB"), [(0, 0), (1, 500), (2, 500), (3, 500), (4, 1000)])
        self.assertEqual(stops(HAND, "AKK"), [(0, 0), (1, 500), (2, 500), (3, 500)])
        self.assertEqual(stops(HAND, "KK"), [(0, 0), (1, 0), (2, 0)])

    def test_by_chance(self):
        chance = random.Random(53)
        for _ in range(800):
            hand = script_by(chance)
            word = word_by(chance, "abc", 9)
            told = stops(hand, word)
            self.assertEqual(told, stops_by_spans(hand, word))
            self.assertEqual([x for _, x in told], sorted(x for _, x in told))
            self.assertEqual([at for at, _ in told], [begin for begin, _ in clusters(hand.case, word)] + [len(word)])

    def test_the_list_is_new(self):
        stops(HAND, "AB").clear()
        self.assertEqual(stops(HAND, "AB"), [(0, 0), (1, 350), (2, 701)])
        self.assertEqual({type(one) for one in stops(HAND, "ABC")}, {tuple})


class Carets(SeamCase):
    def test_each_stop_s_place(self):
        for word in words("ACKe", 4):
            for at, x in stops(HAND, word):
                self.assertEqual(caret(HAND, word, at), x)

    def test_no_stop_s_place(self):
        for thing in (-1, 1, 3, 4, 6, 10 ** 30, -10 ** 30):
            self.refused(NoPlace, thing, caret, HAND, "AeBee", thing)
        self.assertEqual(caret(HAND, "AeeBe", 3), 500)
        for thing in (-1, 1, 2):
            self.refused(NoPlace, thing, caret, HAND, "", thing)
        self.assertEqual(caret(HAND, "", 0), 0)

    def test_places_between_stops(self):
        self.assertEqual([at for at, _ in stops(HAND, "AeBee")], [0, 2, 5])
        self.refused(NoPlace, 1, caret, HAND, "AeBee", 1)
        self.refused(NoPlace, 4, caret, HAND, "AeBee", 4)

    def test_no_whole_numbers(self):
        for thing in no_wholes():
            self.refused(NoPlace, thing, caret, HAND, "AB", thing)
            self.refused(NoPlace, thing, caret, HAND, "", thing)

    def test_behind_the_word(self):
        self.refused(NoWord, 1, caret, HAND, "A1", True)
        self.refused(NoWord, -1, caret, HAND, None, [])


class Hits(SeamCase):
    def test_x_of_a_stop(self):
        for at, x in stops(HAND, "DABCCC"):
            self.assertEqual(hit(HAND, "DABCCC", x), at)

    def test_nearest(self):
        # 0, 350 and 701 are the stops.
        for x, at in ((-1, 0), (1, 0), (174, 0), (175, 0), (176, 1), (349, 1), (525, 1), (526, 2), (700, 2), (702, 2)):
            self.assertEqual(hit(HAND, "AB", x), at, x)

    def test_as_near_to_two(self):
        self.assertEqual(hit(HAND, "AA", 250), 0)
        self.assertEqual(hit(HAND, "AA", 251), 1)
        self.assertEqual(hit(HAND, "AA", 750), 1)

    def test_far_off(self):
        for word, end in (("AB", 2), ("AeB", 3), ("", 0)):
            for x in (10 ** 6, 10 ** 30 + 1, 10 ** 300):
                self.assertEqual(hit(HAND, word, x), end)
                self.assertEqual(hit(HAND, word, -x), 0)

    def test_several_stops_at_one_x(self):
        self.assertEqual(stops(HAND, "AKKB")[1:4], [(1, 500), (2, 500), (3, 500)])
        for x in (251, 400, 500, 600, 750):
            self.assertEqual(hit(HAND, "AKKB", x), 1)
        self.assertEqual(hit(HAND, "AKKB", 751), 4)
        self.assertEqual(hit(HAND, "KK", 7), 0)
        self.assertEqual(hit(HAND, "AK", 10 ** 31), 1)

    def test_all_short_words(self):
        for word in words("ABDKe", 4):
            told = stops(HAND, word)
            for x in range(-10, 2100, 97):
                near = min(abs(one - x) for _, one in told)
                self.assertEqual(hit(HAND, word, x), [at for at, one in told if abs(one - x) == near][0])


class All(SeamCase):
    def test_by_names(self):
        self.assertEqual(spans(word="AB", hand=HAND), [(0, 2, 0, 1)])
        self.assertEqual(stops(word="AB", hand=HAND), [(0, 0), (1, 350), (2, 701)])
        self.assertEqual(caret(place=1, word="AB", hand=HAND), 350)
        self.assertEqual(hit(x=340, word="AB", hand=HAND), 1)

    def test_refused(self):
        calls = (lambda word: spans(HAND, word), lambda word: stops(HAND, word),
                 lambda word: caret(HAND, word, 0), lambda word: hit(HAND, word, 0))
        for call in calls:
            for thing in no_texts():
                self.refused(NoWord, -1, call, thing)
            for word, at in (("1", 0), ("a1", 1), ("abc d", 3), ("|a", 0), ("ab\n", 2), ("-", 0)):
                self.refused(NoWord, at, call, word)

    def test_long_words(self):
        word = "AB" * 500
        self.assertEqual(stops(HAND, word)[-2:], [(999, 499 * 701 + 350), (1000, 500 * 701)])
        self.assertEqual(len(spans(HAND, word)), 500)
        self.assertEqual(caret(HAND, word, 999), 499 * 701 + 350)
        self.assertEqual(hit(HAND, word, 10 ** 31), 1000)
        # All clusters in one span.
        joined = Script(Case(), Shaper([Pass([Rule(["a", "a"], "b", None, ["a"]), Rule(["a"], "b")])] + [
            Pass([Rule(["b", "b", "b"], "b")]) for _ in range(3)]))
        self.assertLess(len(spans(joined, "a" * 1000)), 100)
        self.assertEqual(stops(joined, "a" * 1000)[-1][0], 1000)


if __name__ == "__main__":
    unittest.main()
