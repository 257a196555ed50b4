"""[8] to [10]: cases and clusters."""

import unittest

from markseam.case import Case, clusters
from markseam.errors import NoCase, NoWord
from tests.helpers import SIGNS, SeamCase, Yes, no_texts, no_wholes, things

RANKS = {"a": 0, "e": 3, "i": 9, "o": 1}
GOOD = {
    "ranks": RANKS,
    "wide": {"B": 0, "C": 1000, "a": 70, "z": 500},
    "feet": {"e": (-1000, 1000), "i": (0, 0), "o": (5, -6)},
    "seats": {("B", 1): (1000, -1000), ("B", 9): (0, 0), ("e", 3): (7, 8), ("a", 2): (1, 2)},
}
NO_KEYS = ["", "ab", "1", " ", "\n", 0, 1, None, True, (), ("a",), 1.5, b"a", frozenset(), len]


class Hashable(Yes):
    """Stands in a dict where e would, and says that it is equal to it."""

    def __hash__(self):
        return hash("e")


def no_dicts():
    return things() + [0, 1, "", "a", "ranks", [], [("a", 1)], (), (("a", 1),)]


class MakeCase(SeamCase):
    def test_left_out_none_and_empty_are_alike(self):
        one = Case()
        self.assertEqual(one, Case(None, None, None, None))
        self.assertEqual(one, Case({}, {}, {}, {}))
        self.assertEqual(len(one), 0)

    def test_each_dict_alone_left_out(self):
        for name in ("wide", "feet", "seats"):
            for left in ({}, {name: None}, {name: {}}):
                more = {key: thing for key, thing in GOOD.items() if key != name}
                self.assertEqual(Case(**more, **left), Case(**{**GOOD, name: {}}))

    def test_by_names_in_another_order_and_by_place(self):
        one = Case(GOOD["ranks"], GOOD["wide"], GOOD["feet"], GOOD["seats"])
        self.assertEqual(one, Case(seats=GOOD["seats"], feet=GOOD["feet"], wide=GOOD["wide"], ranks=RANKS))

    def test_no_dict(self):
        for name in GOOD:
            for thing in no_dicts():
                self.refused(NoCase, name, Case, **{**GOOD, name: thing})

    def test_keys_that_are_no_signs(self):
        for key in NO_KEYS + [Hashable()]:
            self.refused(NoCase, "ranks", Case, {key: 1})
            self.refused(NoCase, "ranks", Case, {"b": 1, key: 1})
            self.refused(NoCase, "wide", Case, RANKS, {key: 1})
            self.refused(NoCase, "feet", Case, RANKS, None, {key: (1, 1)})
            self.refused(NoCase, "seats", Case, RANKS, None, None, {key: (1, 1)})

    def test_ranks(self):
        for rank in range(10):
            self.assertEqual(Case({"a": rank}).rank_of("a"), rank)
        for rank in [-1, 10, 11, -10 ** 30, 10 ** 30] + no_wholes():
            self.refused(NoCase, "ranks", Case, {"a": rank})
            self.refused(NoCase, "ranks", Case, {"b": 1, "a": rank})

    def test_widths(self):
        for many in (0, 1, 499, 500, 501, 1000):
            self.assertEqual(Case(RANKS, {"B": many}).wide_of("B"), many)
            self.assertEqual(Case(RANKS, {"a": many}).wide_of("a"), many)
        for many in [-1, 1001, 10 ** 30] + no_wholes():
            self.refused(NoCase, "wide", Case, RANKS, {"B": many})
            self.refused(NoCase, "wide", Case, RANKS, {"a": many})
            self.refused(NoCase, "wide", Case, None, {"c": 5, "B": many})

    def test_no_width_of_a_hung_mark(self):
        for rank in range(1, 10):
            for many in (0, 5, 500):
                self.refused(NoCase, "wide", Case, {"e": rank}, {"e": many})
        self.assertEqual(Case({"e": 0}, {"e": 5}).wide_of("e"), 5)

    def test_feet(self):
        for foot in ((0, 0), (-1000, 1000), (1000, -1000), (0, 7)):
            for rank in range(1, 10):
                self.assertEqual(Case({"e": rank}, feet={"e": foot}).foot_of("e"), foot)
        for foot in self.no_points():
            self.refused(NoCase, "feet", Case, RANKS, None, {"e": foot})
            self.refused(NoCase, "feet", Case, RANKS, None, {"i": (1, 1), "e": foot})

    def test_no_feet_of_bases_and_fore_marks(self):
        for foot in ((0, 0), (3, 4)):
            self.refused(NoCase, "feet", Case, RANKS, None, {"B": foot})
            self.refused(NoCase, "feet", Case, RANKS, None, {"a": foot})
            self.refused(NoCase, "feet", Case, None, None, {"e": foot})

    def no_points(self):
        far = [(-1001, 0), (1001, 0), (0, -1001), (0, 1001), (10 ** 30, 0)]
        forms = [(), (1,), (1, 2, 3), [1, 2], {1: 2}, "ab", "12", 5, None, ((1, 2), 3), ((1, 2),)]
        inner = [(thing, 0) for thing in no_wholes()] + [(0, thing) for thing in no_wholes()]
        return far + forms + inner + things()

    def test_seats(self):
        for rank in range(1, 10):
            for sign in "Bae":
                case = Case(RANKS, seats={(sign, rank): (-1000, 1000)})
                self.assertEqual(case.seat_of(sign, rank), (-1000, 1000))
        for seat in self.no_points():
            self.refused(NoCase, "seats", Case, None, None, None, {("B", 1): seat})
            self.refused(NoCase, "seats", Case, None, None, None, {("B", 2): (0, 0), ("B", 1): seat})

    def test_seats_by_wrong_keys(self):
        keys = [("B", 0), ("B", 10), ("B", -1), ("B", True), ("B", 1.0), ("B", None), ("B", "1"), ("B",), ("B", 1, 1),
                ("", 1), ("ab", 1), ("1", 1), (1, "B"), (None, 1), "B", "B1", 1, None, (), (("B", 1),), (("B", 1), 1)]
        for key in keys:
            self.refused(NoCase, "seats", Case, None, None, None, {key: (0, 0)})
            self.refused(NoCase, "seats", Case, None, None, None, {("B", 5): (0, 0), key: (0, 0)})

    def test_the_first_wrong_dict_is_told(self):
        names = ["ranks", "wide", "feet", "seats"]
        wrong = {"ranks": {"a": 10}, "wide": {"B": -1}, "feet": {"e": (0,)}, "seats": {("B", 0): (0, 0)}}
        for bits in range(1, 16):
            bad = [name for k, name in enumerate(names) if bits >> k & 1]
            self.refused(NoCase, bad[0], Case, **{**GOOD, **{name: wrong[name] for name in bad}})
            self.refused(NoCase, bad[0], Case, **{**GOOD, **{name: 5 for name in bad}})

    def test_what_is_handed_in_stays_and_is_not_kept(self):
        handed = {name: dict(table) for name, table in GOOD.items()}
        case = Case(**handed)
        self.assertEqual(handed, GOOD)
        handed["ranks"]["e"] = 5
        handed["wide"]["B"] = 9
        handed["feet"]["e"] = (9, 9)
        handed["seats"]["B", 1] = (9, 9)
        self.assertEqual(case, Case(**GOOD))
        for table in handed.values():
            table.clear()
        self.assertEqual(case, Case(**GOOD))
        self.assertEqual(case.rank_of("e"), 3)
        self.assertEqual(case.seat_of("B", 1), (1000, -1000))
        self.assertEqual(str(case), "a0 e3 i9 o1")


class AskCase(SeamCase):
    def test_a_fore_mark(self):
        case = Case(**GOOD)
        self.assertEqual((case.rank_of("a"), case.is_base("a"), case.is_hung("a")), (0, False, False))
        self.assertIs(type(case.rank_of("a")), int)
        self.assertEqual(case.wide_of("a"), 70)
        self.assertEqual(Case(RANKS).wide_of("a"), 500)
        self.assertEqual(case.foot_of("a"), (0, 0))

    def test_hung_marks(self):
        case = Case(**GOOD)
        for sign, rank, foot in (("e", 3, (-1000, 1000)), ("i", 9, (0, 0)), ("o", 1, (5, -6))):
            self.assertEqual(case.rank_of(sign), rank)
            self.assertIs(case.is_base(sign), False)
            self.assertIs(case.is_hung(sign), True)
            self.assertEqual(case.wide_of(sign), 0)
            self.assertEqual(case.foot_of(sign), foot)
        self.assertEqual(Case(RANKS).foot_of("e"), (0, 0))

    def test_bases(self):
        case = Case(**GOOD)
        for sign in SIGNS:
            if sign not in RANKS:
                self.assertIsNone(case.rank_of(sign))
                self.assertIs(case.is_base(sign), True)
                self.assertIs(case.is_hung(sign), False)
                self.assertEqual(case.wide_of(sign), {"B": 0, "C": 1000}.get(sign, 500))
                self.assertEqual(case.foot_of(sign), (0, 0))

    def test_seats_that_are_named_and_not(self):
        case = Case(**GOOD)
        for sign in SIGNS:
            for rank in range(1, 10):
                self.assertEqual(case.seat_of(sign, rank), GOOD["seats"].get((sign, rank)))

    def test_kinds_of_what_is_told(self):
        case = Case(**GOOD)
        self.assertIs(type(case.foot_of("B")), tuple)
        self.assertIs(type(case.foot_of("e")), tuple)
        self.assertIs(type(case.seat_of("B", 9)), tuple)

    def test_by_names(self):
        case = Case(**GOOD)
        self.assertEqual(case.rank_of(sign="e"), 3)
        self.assertIs(case.is_base(sign="e"), False)
        self.assertIs(case.is_hung(sign="e"), True)
        self.assertEqual(case.wide_of(sign="C"), 1000)
        self.assertEqual(case.foot_of(sign="o"), (5, -6))
        self.assertEqual(case.seat_of(rank=3, sign="e"), (7, 8))

    def test_len(self):
        self.assertEqual(len(Case(wide={"a": 5})), 0)
        self.assertEqual(len(Case({"a": 0})), 1)
        self.assertEqual(len(Case(**GOOD)), 4)
        self.assertEqual(len(Case({sign: 1 for sign in SIGNS})), 52)

    def test_str(self):
        self.assertEqual(str(Case()), "none")
        self.assertEqual(str(Case(wide={"a": 5}, seats={("a", 1): (1, 1)})), "none")
        self.assertEqual(str(Case({"e": 3, "a": 0})), "a0 e3")
        self.assertEqual(str(Case({"b": 9, "a": 0, "Z": 4})), "Z4 a0 b9")
        self.assertEqual(str(Case({"q": 1})), "q1")


class EqualCases(SeamCase):
    def test_defaults_handed_in_make_no_difference(self):
        self.assertEqual(Case(RANKS), Case(RANKS, {"B": 500, "a": 500}, {"e": (0, 0)}))
        self.assertEqual(Case(RANKS, {"B": 3, "C": 500}), Case(RANKS, {"B": 3}))
        self.assertEqual(Case(RANKS, feet={"o": (1, 2), "e": (0, 0)}), Case(RANKS, feet={"o": (1, 2)}))

    def test_order_of_keys_makes_no_difference(self):
        self.assertEqual(Case({"a": 1, "b": 2}), Case({"b": 2, "a": 1}))

    def test_a_seat_at_nought_is_a_seat(self):
        self.assertNotEqual(Case(seats={("B", 1): (0, 0)}), Case())

    def test_one_thing_otherwise(self):
        one = Case(**GOOD)
        otherwise = [
            {"ranks": {**RANKS, "e": 4}}, {"ranks": {**RANKS, "x": 0}}, {"wide": {**GOOD["wide"], "B": 1}},
            {"wide": {**GOOD["wide"], "x": 1}}, {"feet": {**GOOD["feet"], "e": (0, 0)}},
            {"feet": {**GOOD["feet"], "i": (0, 1)}}, {"seats": {**GOOD["seats"], ("e", 3): (8, 7)}},
            {"seats": {**GOOD["seats"], ("e", 4): (7, 8)}}, {"wide": None}, {"feet": None}, {"seats": None},
        ]
        for change in otherwise:
            self.assertIs(one == Case(**{**GOOD, **change}), False)
            self.assertIs(one != Case(**{**GOOD, **change}), True)

    def test_a_mark_without_measures_is_no_base(self):
        self.assertNotEqual(Case({"a": 0}), Case())
        self.assertNotEqual(Case({"a": 0}), Case({"a": 1}))

    def test_equal_ones(self):
        self.assertIs(Case(**GOOD) == Case(**GOOD), True)
        self.assertIs(Case(**GOOD) != Case(**GOOD), False)

    def test_nothing_that_is_no_case(self):
        for thing in no_texts() + ["a0", {}, RANKS]:
            self.assertIs(Case() == thing, False)
            self.assertIs(Case() != thing, True)


class Clusters(SeamCase):
    case = Case(RANKS)

    def test_word_without_signs(self):
        self.assertEqual(clusters(self.case, ""), [])

    def test_bases_alone(self):
        self.assertEqual(clusters(self.case, "B"), [(0, 1)])
        self.assertEqual(clusters(self.case, "BCB"), [(0, 1), (1, 2), (2, 3)])

    def test_marks_alone(self):
        self.assertEqual(clusters(self.case, "a"), [(0, 1)])
        self.assertEqual(clusters(self.case, "eaio"), [(0, 4)])

    def test_first_cluster_without_a_base(self):
        self.assertEqual(clusters(self.case, "eaBi"), [(0, 2), (2, 4)])
        self.assertEqual(clusters(self.case, "eBC"), [(0, 1), (1, 2), (2, 3)])

    def test_bases_with_marks_behind(self):
        self.assertEqual(clusters(self.case, "BeaCDi"), [(0, 3), (3, 4), (4, 6)])

    def test_kinds_of_what_is_told(self):
        told = clusters(self.case, "BeC")
        self.assertIs(type(told), list)
        self.assertEqual([type(pair) for pair in told], [tuple, tuple])
        told.clear()
        self.assertEqual(clusters(self.case, "BeC"), [(0, 2), (2, 3)])

    def test_long_word(self):
        self.assertEqual(clusters(self.case, "Be" * 500), [(2 * k, 2 * k + 2) for k in range(500)])

    def test_by_names(self):
        self.assertEqual(clusters(word="Be", case=self.case), [(0, 2)])

    def test_refused(self):
        self.refused(NoWord, 0, clusters, self.case, "|a")
        self.refused(NoWord, 2, clusters, self.case, "ab1")
        for thing in no_texts():
            self.refused(NoWord, -1, clusters, self.case, thing)


if __name__ == "__main__":
    unittest.main()
