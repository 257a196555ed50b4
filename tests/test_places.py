"""[49], [50]: places."""

import random
import unittest

from markseam.case import Case
from markseam.errors import NoWord
from markseam.passes import Pass
from markseam.places import placed, seated, width
from markseam.rules import Rule
from markseam.script import Script
from markseam.shaper import Shaper
from tests.helpers import SeamCase, case_by, no_texts, script_by, word_by, words

# f is a fore mark; a and b are of rank 1, c of rank 2, d of rank 9.
CASE = Case(
    {"f": 0, "a": 1, "b": 1, "c": 2, "d": 9},
    {"f": 30, "I": 200, "W": 1000, "Z": 0},
    {"a": (10, -5), "c": (-20, 40), "d": (0, 7)},
    {("I", 1): (100, 700), ("W", 1): (500, 650), ("W", 2): (480, -100), ("a", 1): (15, 90), ("a", 2): (-1, -2),
     ("c", 9): (3, -4), ("f", 1): (11, 22)})


def seated_by_looking(case, row):
    """Each mark looks back, sign by sign."""
    told, pen = [], 0
    for number, sign in enumerate(row):
        if not case.is_hung(sign):
            told.append((sign, pen, 0, None))
            pen += case.wide_of(sign)
            continue
        found, x = None, 0
        for at in range(number - 1, -1, -1):
            seat = case.seat_of(row[at], case.rank_of(sign))
            if seat is not None:
                foot = case.foot_of(sign)
                found = (sign, told[at][1] + seat[0] - foot[0], told[at][2] + seat[1] - foot[1], at)
                break
            if not case.is_hung(row[at]):
                x = told[at][1]
                break
        told.append(found or (sign, x, 0, None))
    return told


class Seated(SeamCase):
    def test_the_pen(self):
        self.assertEqual(seated(CASE, ""), [])
        self.assertEqual(seated(CASE, "IWZQfI"), [
            ("I", 0, 0, None), ("W", 200, 0, None), ("Z", 1200, 0, None), ("Q", 1200, 0, None), ("f", 1700, 0, None),
            ("I", 1730, 0, None)])

    def test_on_a_base(self):
        self.assertEqual(seated(CASE, "WIa"), [("W", 0, 0, None), ("I", 1000, 0, None), ("a", 1090, 705, 1)])
        self.assertEqual(seated(CASE, "QWc"), [("Q", 0, 0, None), ("W", 500, 0, None), ("c", 1000, -140, 1)])
        self.assertEqual(seated(CASE, "Ib"), [("I", 0, 0, None), ("b", 100, 700, 0)])

    def test_on_a_fore_mark(self):
        self.assertEqual(seated(CASE, "Ifb"), [("I", 0, 0, None), ("f", 200, 0, None), ("b", 211, 22, 1)])

    def test_marks_on_marks(self):
        self.assertEqual(seated(CASE, "Iaaa"), [
            ("I", 0, 0, None), ("a", 90, 705, 0), ("a", 95, 800, 1), ("a", 100, 895, 2)])
        self.assertEqual(seated(CASE, "Iacd"), [
            ("I", 0, 0, None), ("a", 90, 705, 0), ("c", 109, 663, 1), ("d", 112, 652, 2)])

    def test_looks_past_marks_that_have_no_seat_for_its_rank(self):
        self.assertEqual(seated(CASE, "Wbc"), [("W", 0, 0, None), ("b", 500, 650, 0), ("c", 500, -140, 0)])
        self.assertEqual(seated(CASE, "Ibdcb")[4], ("b", 100, 700, 0))
        self.assertEqual(seated(CASE, "Iabbb")[4], ("b", 90 + 15, 705 + 90, 1))

    def test_looks_no_farther_than_the_nearest_that_is_no_hung_mark(self):
        self.assertEqual(seated(CASE, "WQa"), [("W", 0, 0, None), ("Q", 1000, 0, None), ("a", 1000, 0, None)])
        self.assertEqual(seated(CASE, "WIc")[2], ("c", 1000, 0, None))
        self.assertEqual(seated(CASE, "IaQa")[3], ("a", 200, 0, None))

    def test_on_none(self):
        # x is then that of the last one looked at, and not where the pen is.
        self.assertEqual(seated(CASE, "Qb"), [("Q", 0, 0, None), ("b", 0, 0, None)])
        self.assertEqual(seated(CASE, "WIdd")[2:], [("d", 1000, 0, None), ("d", 1000, 0, None)])

    def test_a_row_that_begins_with_hung_marks(self):
        self.assertEqual(seated(CASE, "b"), [("b", 0, 0, None)])
        self.assertEqual(seated(CASE, "abcI"), [
            ("a", 0, 0, None), ("b", 15, 90, 0), ("c", 19, -42, 0), ("I", 0, 0, None)])
        self.assertEqual(seated(CASE, "dcd"), [("d", 0, 0, None), ("c", 0, 0, None), ("d", 3, -11, 1)])

    def test_seated_on_one_that_is_seated_on_none(self):
        self.assertEqual(seated(CASE, "WQaa")[2:], [("a", 1000, 0, None), ("a", 1005, 95, 2)])

    def test_feet_and_seats_at_their_bounds(self):
        case = Case({"a": 1}, None, {"a": (1000, -1000)}, {("a", 1): (-1000, 1000), ("B", 1): (0, 0)})
        self.assertEqual(seated(case, "Baaa"), [
            ("B", 0, 0, None), ("a", -1000, 1000, 0), ("a", -3000, 3000, 1), ("a", -5000, 5000, 2)])

    def test_all_short_rows(self):
        for row in words("Wfacd", 5):
            self.assertEqual(seated(CASE, row), seated_by_looking(CASE, row), row)

    def test_by_chance(self):
        chance = random.Random(49)
        for _ in range(1000):
            case = case_by(chance, "abcdE")
            row = word_by(chance, "abcdE", 12)
            self.assertEqual(seated(case, row), seated_by_looking(case, row))

    def test_feet_lie_on_seats(self):
        chance = random.Random(50)
        for _ in range(300):
            case = case_by(chance, "abcdE")
            told = seated(case, word_by(chance, "abcdE", 12))
            for sign, x, y, seat in told:
                if seat is not None:
                    below, left, low, _ = told[seat]
                    foot, spot = case.foot_of(sign), case.seat_of(below, case.rank_of(sign))
                    self.assertEqual((x + foot[0], y + foot[1]), (left + spot[0], low + spot[1]))

    def test_kinds(self):
        told = seated(CASE, "Ia")
        self.assertIs(type(told), list)
        self.assertEqual({type(one) for one in told}, {tuple})
        told.clear()
        self.assertEqual(len(seated(CASE, "Ia")), 2)

    def test_long_rows(self):
        told = seated(CASE, "W" * 500 + "a" * 500)
        self.assertEqual(told[499], ("W", 499000, 0, None))
        self.assertEqual(told[999], ("a", 499490 + 5 * 499, 655 + 95 * 499, 998))
        told = seated(CASE, "I" + "b" * 80000)
        self.assertEqual(told[80000], ("b", 100, 700, 0))
        self.assertEqual(seated(CASE, "d" * 80000)[79999], ("d", 0, 0, None))


class Width(SeamCase):
    def test_some(self):
        rows = [("", 0), ("I", 200), ("Q", 500), ("Z", 0), ("ZZ", 0), ("W", 1000), ("a", 0), ("Wabcd", 1000),
                ("aW", 1000), ("fI", 230), ("IWQaIc", 1900)]
        for row, many in rows:
            self.assertEqual(width(CASE, row), many, row)

    def test_is_where_the_next_sign_stands(self):
        for row in words("Wfac", 4):
            self.assertEqual(width(CASE, row), seated(CASE, row + "Q")[-1][1])

    def test_long(self):
        self.assertEqual(width(CASE, "Wa" * 500), 500000)


class Placed(SeamCase):
    def test_seated_of_the_word_s_row(self):
        chance = random.Random(51)
        for _ in range(300):
            hand = script_by(chance)
            word = word_by(chance, "abc", 9)
            self.assertEqual(placed(hand, word), seated(hand.case, hand.row(word)))

    def test_marks_are_put_in_order_and_shaped_first(self):
        hand = Script(CASE, Shaper([Pass([Rule(["V"], "W"), Rule(["b"], "")])]))
        self.assertEqual(placed(hand, "Vcabf"), [
            ("f", 0, 0, None), ("W", 30, 0, None), ("a", 520, 655, 1), ("c", 539, 613, 2)])
        self.assertEqual(placed(hand, ""), [])
        self.assertEqual(placed(hand, "b"), [])


class All(SeamCase):
    def test_by_names(self):
        hand = Script(CASE, Shaper())
        self.assertEqual(seated(row="Ib", case=CASE), seated(CASE, "Ib"))
        self.assertEqual(width(row="Ib", case=CASE), 200)
        self.assertEqual(placed(word="Ib", hand=hand), seated(CASE, "Ib"))

    def test_refused(self):
        for call, first in ((seated, CASE), (width, CASE), (placed, Script(CASE, Shaper()))):
            for thing in no_texts():
                self.refused(NoWord, -1, call, first, thing)
            for word, at in (("1", 0), ("a1", 1), ("abc d", 3), ("|a", 0), ("ab\n", 2), ("-", 0)):
                self.refused(NoWord, at, call, first, word)


if __name__ == "__main__":
    unittest.main()
