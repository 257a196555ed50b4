"""[26]: machines."""

import random
import unittest

from markseam.errors import NoRule, NoWord
from markseam.machine import Machine
from tests.helpers import (
    SIGNS, SeamCase, machine_by, no_letters, no_lists, no_texts, no_wholes, row_by_rooms, words)

# Over ab: leaves out each b behind an a.
LOSE = [("", [("a", 1), ("b", 0)]), ("", [("a", 1), ("", 0)])]
ENDS = [("x", [("", 1), ("pq", 0)]), ("yz", [("r", 0), ("", 2)]), ("", [("", 2), ("s", 2)])]
BAD_TEXTS = no_texts() + ["a1", "|", " ", "a b", "\n", "-"]


def sixteen(many):
    """Rooms of a machine over sixteen letters."""
    return [("E", [("t", (room + place) % many) for place in range(16)]) for room in range(many)]


class MakeMachine(SeamCase):
    def test_what_it_is_made_of(self):
        one = Machine("ab", LOSE, "xy")
        self.assertEqual((one.letters(), one.rooms(), one.first(), len(one)), ("ab", LOSE, "xy", 2))

    def test_first_is_left_out(self):
        self.assertEqual(Machine("ab", LOSE).first(), "")
        self.assertEqual(Machine("ab", LOSE), Machine("ab", LOSE, ""))

    def test_by_names(self):
        self.assertEqual(Machine(first="q", rooms=LOSE, letters="ab"), Machine("ab", LOSE, "q"))

    def test_one_room_and_two_hundred(self):
        self.assertEqual(len(Machine("a", [("", [("", 0)])])), 1)
        letters = "abcdefghijklmnop"
        self.assertEqual(len(Machine(letters, sixteen(200))), 200)
        self.assertEqual(Machine(letters, sixteen(200)).row("abp"), "tttE")

    def test_long_texts(self):
        one = Machine("a", [("x" * 1000, [("y" * 1000, 0)])], "z" * 1000)
        self.assertEqual(one.row("aa"), "z" * 1000 + "y" * 2000 + "x" * 1000)

    def test_texts_of_all_signs(self):
        self.assertEqual(Machine("a", [(SIGNS, [(SIGNS, 0)])], SIGNS).row("a"), SIGNS * 3)

    def test_what_is_handed_in_stays_and_is_not_kept(self):
        rooms = [(end, list(ways)) for end, ways in LOSE]
        one = Machine("ab", rooms)
        self.assertEqual(rooms, LOSE)
        rooms[0][1][0] = ("q", 0)
        self.assertEqual(one.rooms(), LOSE)
        rooms[1][1].clear()
        rooms.clear()
        self.assertEqual((one.rooms(), len(one), one.row("ab")), (LOSE, 2, "a"))

    def test_what_is_told_is_the_askers_own(self):
        one = Machine("ab", LOSE)
        told = one.rooms()
        told[0][1][0] = ("q", 0)
        told[1][1].clear()
        told.pop()
        self.assertEqual((one.rooms(), one.row("ab")), (LOSE, "a"))

    def test_kinds_of_what_is_told(self):
        rooms = Machine("ab", LOSE).rooms()
        self.assertEqual([type(rooms), type(rooms[0]), type(rooms[0][1]), type(rooms[0][1][0])],
                         [list, tuple, list, tuple])


class Refused(SeamCase):
    def refused_rooms(self, rooms, letters="a"):
        self.refused(NoRule, "rooms", Machine, letters, rooms)
        self.refused(NoRule, "rooms", Machine, letters, rooms, 7)

    def test_no_list_or_none_in_it(self):
        for thing in no_lists() + [None, [], (("", [("", 0)]),), {0: ("", [("", 0)])}]:
            self.refused_rooms(thing)

    def test_too_many_rooms(self):
        self.refused_rooms([("", [("", 0)])] * 201)
        self.refused_rooms([("", [("", 0)])] * 1000)

    def test_a_room_that_is_no_tuple_of_two(self):
        for thing in no_lists() + [None, [], ["", [("", 0)]], (), ("",), ("", [("", 0)], 0)]:
            self.refused_rooms([thing])
            self.refused_rooms([("", [("", 0)]), thing])
            self.refused_rooms([thing, ("", [("", 0)])])

    def test_an_end_that_is_no_text_of_signs(self):
        for thing in BAD_TEXTS:
            self.refused_rooms([(thing, [("", 0)])])
            self.refused_rooms([("", [("", 0)]), (thing, [("", 0)])])

    def test_ways_that_are_no_list(self):
        for thing in no_lists() + [None, (("", 0),), {0: ("", 0)}, "a"]:
            self.refused_rooms([("", thing)])

    def test_ways_too_few_or_too_many(self):
        for many in (0, 2, 3):
            self.refused_rooms([("", [("", 0)] * many)])
        for many in (0, 1, 3, 16):
            self.refused_rooms([("", [("", 0)] * 2), ("", [("", 0)] * many)], "ab")

    def test_a_way_that_is_no_tuple_of_two(self):
        for thing in no_lists() + [None, [], ["", 0], (), ("",), ("", 0, 0), (0, "")]:
            self.refused_rooms([("", [thing])])
            self.refused_rooms([("", [("", 0), thing])], "ab")

    def test_a_way_s_text_that_is_no_text_of_signs(self):
        for thing in BAD_TEXTS:
            self.refused_rooms([("", [(thing, 0)])])
            self.refused_rooms([("", [("", 0), (thing, 0)])], "ab")

    def test_a_way_s_number_of_no_room(self):
        for thing in no_wholes() + [-1, 1, 2, 200, 10 ** 30, -10 ** 30]:
            self.refused_rooms([("", [("", thing)])])
        for thing in [True, False, 2, -2, -1]:
            self.refused_rooms([("", [("", 1)]), ("", [("", thing)])])

    def test_first_that_is_no_text_of_signs(self):
        for thing in BAD_TEXTS:
            self.refused(NoRule, "first", Machine, "ab", LOSE, thing)
            self.refused(NoRule, "first", Machine, first=thing, letters="ab", rooms=LOSE)

    def test_letters_ahead_of_rooms_ahead_of_first(self):
        for letters in no_letters():
            self.refused(NoRule, "letters", Machine, letters, LOSE)
            self.refused(NoRule, "letters", Machine, letters, None, 0)
        self.refused(NoRule, "rooms", Machine, "abc", LOSE)
        self.refused(NoRule, "rooms", Machine, "a", LOSE, None)
        self.refused(NoRule, "rooms", Machine, "ab", LOSE + [("", [])], "1")


class Row(SeamCase):
    def test_row_and_told(self):
        one = Machine("ab", LOSE)
        self.assertEqual([one.row(word) for word in ("", "a", "b", "ab", "abb", "bab", "aab")],
                         ["", "a", "b", "a", "ab", "ba", "aa"])
        self.assertEqual([one.told(word) for word in ("", "a", "ab")], [("", 0), ("a", 1), ("a", 0)])

    def test_first_ways_and_end(self):
        one = Machine("ba", ENDS, "Z")
        self.assertEqual(one.row(""), "Zx")
        self.assertEqual(one.row("b"), "Zyz")
        self.assertEqual(one.row("a"), "Zpqx")
        self.assertEqual(one.row("bb"), "Zrx")
        self.assertEqual(one.row("ba"), "Z")
        self.assertEqual(one.row("baa"), "Zs")
        self.assertEqual([one.told(word) for word in ("", "b", "abba")],
                         [("Z", 0), ("Z", 1), ("Zpqrpq", 0)])

    def test_read_off_the_rooms(self):
        chance = random.Random(26)
        for _ in range(50):
            one = machine_by(chance, chance.choice(["ab", "ba", "cab"]))
            for word in words(one.letters(), 5):
                self.assertEqual(one.row(word), row_by_rooms(one, word))
                text, room = one.told(word)
                self.assertEqual(text + one.rooms()[room][0], one.row(word))

    def test_words_of_a_thousand_letters(self):
        one = Machine("ab", LOSE, "p")
        self.assertEqual(one.row("ab" * 500), "p" + "a" * 500)
        self.assertEqual(one.told("abb" * 333 + "a"), ("p" + "ab" * 333 + "a", 1))

    def test_by_name(self):
        self.assertEqual(Machine("ab", LOSE).row(word="ab"), "a")
        self.assertEqual(Machine("ab", LOSE).told(word="ab"), ("a", 0))

    def test_kind_of_told(self):
        self.assertEqual([type(thing) for thing in Machine("ab", LOSE).told("a")], [str, int])
        self.assertIs(type(Machine("ab", LOSE).told("a")), tuple)

    def test_what_is_no_word_of_the_letters(self):
        one = Machine("ab", LOSE)
        for call in (one.row, one.told):
            for thing in no_texts():
                self.refused(NoWord, -1, call, thing)
            self.refused(NoWord, 0, call, "c")
            self.refused(NoWord, 2, call, "abc1")
            self.refused(NoWord, 1, call, "a b")
            self.refused(NoWord, 3, call, "aabA")
            self.refused(NoWord, 999, call, "a" * 999 + "|")


class Equal(SeamCase):
    def test_equal(self):
        self.assertIs(Machine("ab", LOSE, "x") == Machine("ab", [(end, list(ways)) for end, ways in LOSE], "x"), True)
        self.assertIs(Machine("ab", LOSE, "x") != Machine("ab", LOSE, "x"), False)

    def test_unlike(self):
        one = Machine("ab", LOSE, "x")
        others = [Machine("ba", LOSE, "x"), Machine("ac", LOSE, "x"), Machine("ab", LOSE), Machine("ab", LOSE, "y"),
                  Machine("ab", LOSE[::-1], "x"), Machine("ab", LOSE + LOSE[:1], "x"),
                  Machine("ab", [("q", LOSE[0][1]), LOSE[1]], "x"),
                  Machine("ab", [("", [("a", 1), ("b", 1)]), LOSE[1]], "x"),
                  Machine("ab", [("", [("a", 1), ("a", 0)]), LOSE[1]], "x")]
        for other in others:
            self.assertIs(one == other, False)
            self.assertIs(other == one, False)
            self.assertIs(one != other, True)

    def test_the_same_rows_do_not_make_machines_equal(self):
        self.assertNotEqual(Machine("a", [("", [("x", 0)])]), Machine("a", [("", [("x", 1)]), ("", [("x", 0)])]))

    def test_what_is_no_machine(self):
        one = Machine("ab", LOSE)
        for thing in no_texts() + [LOSE, ("ab", LOSE, ""), str(one), Machine]:
            self.assertIs(one == thing, False)
            self.assertIs(one != thing, True)


class Shown(SeamCase):
    def test_str(self):
        self.assertEqual(str(Machine("ab", LOSE)), "2 rooms over ab")
        self.assertEqual(str(Machine("ab", (LOSE * 3)[:5])), "5 rooms over ab")
        self.assertEqual(str(Machine("a", [("", [("", 0)])], "x")), "1 rooms over a")
        self.assertEqual(str(Machine("bZa", [("", [("", 0)] * 3)])), "1 rooms over bZa")
        self.assertEqual(str(Machine("abcdefghijklmnop", sixteen(200))), "200 rooms over abcdefghijklmnop")


if __name__ == "__main__":
    unittest.main()
