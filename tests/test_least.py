"""[27] and [28]: least machines."""

import itertools
import random
import time
import unittest

from markseam.errors import NoRule, TooMuch
from markseam.least import least_of, machine_of
from markseam.machine import Machine
from markseam.passes import Pass
from markseam.rules import Rule
from markseam.shaper import Shaper
from markseam.stands import stands_of
from tests.helpers import (
    ALL_G, ALL_H, STANDS_200, STANDS_201, SeamCase, machine_by, no_letters, row_by_rooms, shaper_by, start_of_all,
    words)

SIXTEEN = "abcdefghijklmnop"


def rotated(machine, chance):
    """A machine with the same rows: its rooms stand elsewhere, and a room that no word leads to is put in."""
    rooms, order = machine.rooms(), list(range(1, len(machine)))
    chance.shuffle(order)
    order = [0] + order
    place = {room: number for number, room in enumerate(order)}
    made = [(rooms[room][0], [(text, place[goal]) for text, goal in rooms[room][1]]) for room in order]
    made.append(("Q", [("q", chance.randrange(len(made))) for _ in machine.letters()]))
    return Machine(machine.letters(), made, machine.first())


class LeastOf(SeamCase):
    def test_what_is_sure_is_told_first(self):
        one = least_of(Machine("a", [("pqx", [("pq", 1)]), ("yx", [("yx", 1)])]))
        self.assertEqual((one.first(), one.rooms()), ("pq", [("x", [("yx", 1)]), ("", [("yx", 1)])]))

    def test_texts_are_told_sooner(self):
        one = least_of(Machine("ab", [("", [("", 1), ("", 2)]), ("xy", [("xyz", 1), ("x", 1)]), ("k", [("k", 2)] * 2)]))
        self.assertEqual(one.told("a"), ("x", 1))
        self.assertEqual(one.told("b"), ("k", 2))
        self.assertEqual(one.told("bb"), ("kk", 2))

    def test_a_text_that_must_be_held_back(self):
        held = Machine("ab", [("", [("a", 1), ("b", 0)]), ("q", [("a", 1), ("", 0)])], "f")
        one = least_of(held)
        self.assertEqual((one.first(), one.told("a"), one.row("a")), ("f", ("fa", 1), "faq"))

    def test_all_rows_begin_with_one_long_text(self):
        one = least_of(Machine("a", [("a" * 1000, [("a" * 7, 0)])], "z"))
        self.assertEqual(one, Machine("a", [("", [("a" * 7, 0)])], "z" + "a" * 1000))
        one = least_of(Machine("a", [("ab" * 500, [("ab", 1)]), ("ab" * 500, [("abab", 0)])]))
        self.assertEqual(one, Machine("a", [("", [("ab", 1)]), ("", [("abab", 0)])], "ab" * 500))

    def test_rooms_that_tell_the_same_are_one(self):
        one = least_of(Machine("a", [("x", [("y", 1)]), ("x", [("y", 2)]), ("x", [("y", 0)])]))
        self.assertEqual(one, Machine("a", [("x", [("y", 0)])]))

    def test_rooms_that_tell_the_same_when_texts_are_moved_are_one(self):
        # In room 1 the p was not told yet, in room 2 it was.
        rooms = [("k", [("a", 1), ("ap", 2)]), ("p", [("pq", 1), ("pu", 2)]), ("", [("q", 1), ("u", 2)])]
        one = least_of(Machine("ab", rooms))
        self.assertEqual(one, Machine("ab", [("k", [("ap", 1), ("ap", 1)]), ("", [("qp", 1), ("u", 1)])]))

    def test_rooms_parted_by_a_long_word_alone_are_two(self):
        rooms = [("", [("x", room + 1)]) for room in range(20)] + [("y", [("x", 20)])]
        self.assertEqual(least_of(Machine("a", rooms)), Machine("a", rooms))

    def test_rooms_to_which_no_word_leads_are_left_out(self):
        rooms = [("", [("x", 2)]), ("q", [("q", 0)]), ("y", [("z", 0)]), ("x", [("x", 3)])]
        one = least_of(Machine("a", rooms, "f"))
        self.assertEqual(one, Machine("a", [("", [("x", 1)]), ("y", [("z", 0)])], "f"))

    def test_a_room_that_is_left_out_does_not_say_what_is_sure(self):
        one = least_of(Machine("a", [("x", [("x", 0)]), ("y", [("y", 0)])]))
        self.assertEqual(one, Machine("a", [("", [("x", 0)])], "x"))

    def test_rooms_are_numbered_in_the_order_of_the_first_words(self):
        # The order of the letters, ba, is not the alphabet's.
        rooms = [("", [("", 4), ("", 2)]), ("", [("g", 1)] * 2), ("", [("h", 3), ("h", 1)]),
                 ("", [("k", 3)] * 2), ("", [("m", 1), ("m", 3)])]
        one = least_of(Machine("ba", rooms))
        self.assertEqual([one.told(word) for word in ("", "b", "a", "bb", "ba", "ab", "aa")],
                         [("", 0), ("", 1), ("", 2), ("m", 3), ("m", 4), ("h", 4), ("h", 3)])

    def test_what_was_handed_in_stays(self):
        rooms = [("pqx", [("pq", 1)]), ("yx", [("yx", 1)])]
        one = Machine("a", rooms, "z")
        least_of(machine=one)
        self.assertEqual((one.rooms(), one.first()), (rooms, "z"))

    def test_kind(self):
        self.assertIs(type(least_of(Machine("a", [("", [("", 0)])]))), Machine)


class LeastByChance(SeamCase):
    """Machines chosen by chance, held against what the document says of all words."""

    def setUp(self):
        chance = random.Random(27)
        self.machines = [machine_by(chance, "ba", 3) for _ in range(60)]
        self.rotated = [rotated(one, chance) for one in self.machines]

    def test_the_same_rows(self):
        for one in self.machines:
            least = least_of(one)
            self.assertEqual(least.letters(), "ba")
            for word in words("ba", 7):
                self.assertEqual(least.row(word), row_by_rooms(one, word))

    def test_what_is_sure_and_no_more(self):
        for one in self.machines:
            least = least_of(one)
            for word in words("ba", 3):
                sure = start_of_all([row_by_rooms(one, word + more) for more in words("ba", 6)])
                self.assertEqual(least.told(word)[0], sure)
            self.assertEqual(least.first(), least.told("")[0])

    def test_one_room_for_all_words_that_come_to_the_same(self):
        for one in self.machines:
            least = least_of(one)
            kinds = []
            for word in words("ba", 3):
                sure = len(least.told(word)[0])
                kind = [row_by_rooms(one, word + more)[sure:] for more in words("ba", 4)]
                if kind not in kinds:
                    kinds.append(kind)
                self.assertEqual(least.told(word)[1], kinds.index(kind))
            self.assertEqual(len(least), len(kinds))

    def test_the_least_of_the_least_is_itself(self):
        for one in self.machines:
            self.assertEqual(least_of(least_of(one)), least_of(one))

    def test_machines_of_the_same_rows_have_equal_least_ones(self):
        for one, other in zip(self.machines, self.rotated):
            self.assertNotEqual(one, other)
            self.assertEqual(least_of(one), least_of(other))

    def test_machines_of_unlike_rows_have_unlike_ones(self):
        for one, other in itertools.combinations(self.machines[:30], 2):
            same = all(one.row(word) == other.row(word) for word in words("ba", 7))
            self.assertIs(least_of(one) == least_of(other), same)


class LargeMachines(SeamCase):
    def check(self, one, letters):
        begun = time.process_time()
        least = least_of(one)
        self.assertLess(time.process_time() - begun, 20)
        chance = random.Random(28)
        for _ in range(50):
            word = "".join(chance.choice(letters) for _ in range(300))
            self.assertEqual(least.row(word), one.row(word))
        self.assertEqual(least_of(least), least)
        return least

    def test_two_hundred_rooms_by_chance(self):
        chance = random.Random(29)
        rooms = [(chance.choice(["", "x"]), [(chance.choice(["", "x", "y", "xy"]), chance.randrange(200))
                                             for _ in SIXTEEN]) for _ in range(200)]
        self.check(Machine(SIXTEEN, rooms), SIXTEEN)

    def test_two_hundred_rooms_in_a_ring(self):
        ring = [("z" if room == 0 else "", [("", (room + 1) % 200)] * 16) for room in range(200)]
        self.assertEqual(len(self.check(Machine(SIXTEEN, ring), SIXTEEN)), 200)
        twice = [("z" if room % 100 == 7 else "", [("", (room + 1) % 200)] * 16) for room in range(200)]
        self.assertEqual(len(self.check(Machine(SIXTEEN, twice), SIXTEEN)), 100)

    def test_two_hundred_rooms_with_long_texts(self):
        rooms = [("a" * 900 + "b" * (room % 7), [("a" * (100 * (place % 9)), (room * 3 + 1 + place) % 200)
                                                 for place in range(16)]) for room in range(200)]
        least = self.check(Machine(SIXTEEN, rooms), SIXTEEN)
        self.assertEqual(least.first(), "a" * 900)
        rooms = [("a" * (200 - room), [("a" * (place % 2), (room * 7 + place * 13) % 200)
                                       for place in range(16)]) for room in range(200)]
        self.check(Machine(SIXTEEN, rooms), SIXTEEN)

    def test_what_is_sure_comes_from_far_away(self):
        rooms = [("x" * 1000, [("x", room + 1)]) for room in range(199)] + [("", [("x", 199)])]
        least = self.check(Machine("a", rooms), "a")
        self.assertEqual(least.first(), "x" * 199)
        self.assertEqual(least.told("a" * 50)[0], "x" * 199)


class MachineOf(SeamCase):
    def test_without_passes_and_without_rules(self):
        one = Machine("ba", [("", [("b", 0), ("a", 0)])])
        for shaper in (Shaper(), Shaper([Pass()]), Shaper([Pass()] * 4)):
            self.assertEqual(machine_of(shaper, "ba"), one)

    def test_signs_that_vanish(self):
        one = machine_of(Shaper([Pass([Rule(["b"], "")])]), "ab")
        self.assertEqual(one, Machine("ab", [("", [("a", 0), ("", 0)])]))
        one = machine_of(Shaper([Pass([Rule(["b"], "", ["a"])])]), "ab")
        self.assertEqual(one, Machine("ab", [("", [("a", 1), ("b", 0)]), ("", [("a", 1), ("", 1)])]))

    def test_edges(self):
        one = machine_of(Shaper([Pass([Rule(["a"], "K", ["|"], ["|"])])]), "a")
        self.assertEqual(one, Machine("a", [("", [("", 1)]), ("K", [("aa", 2)]), ("", [("a", 2)])]))

    def test_what_is_ahead_is_waited_for_no_longer_than_it_must(self):
        one = machine_of(Shaper([Pass([Rule(["f"], "F", None, ["i"])])]), "fix")
        self.assertEqual([one.told(word)[0] for word in ("", "f", "fi", "ff", "fx")], ["", "", "Fi", "f", "fx"])
        self.assertEqual(len(one), 2)

    def test_what_is_sure_is_told_ahead_of_the_shaper(self):
        one = machine_of(Shaper([Pass([Rule(["a", "a"], "kq"), Rule(["a"], "k")])]), "ab")
        self.assertEqual([one.told(word)[0] for word in ("", "a", "aa", "ab")], ["", "k", "kq", "kb"])

    def test_rows_of_shapers_by_chance(self):
        chance = random.Random(30)
        made = 0
        for shaper in [shaper_by(chance, most=4) for _ in range(60)]:
            try:
                one = machine_of(shaper, "cab")
            except TooMuch:
                continue
            made += 1
            self.assertEqual(least_of(one), one)
            for word in words("cab", 5):
                self.assertEqual(one.row(word), shaper.row(word))
            long = "".join(chance.choice("abc") for _ in range(1000))
            self.assertEqual(one.row(long), shaper.row(long))
        self.assertGreater(made, 40)

    def test_the_least_of_the_stands(self):
        chance = random.Random(31)
        for shaper in [shaper_by(chance, most=2) for _ in range(20)]:
            rooms = [(end, ways) for stand, end, ways in stands_of(shaper, "ab")]
            self.assertEqual(machine_of(shaper, "ab"), least_of(Machine("ab", rooms)))

    def check_long(self, shaper, letters, one):
        chance = random.Random(32)
        for _ in range(50):
            word = "".join(chance.choice(letters) for _ in range(100))
            self.assertEqual(one.row(word), shaper.row(word))

    def test_many_rooms_by_what_is_ahead(self):
        shaper = Shaper([Pass([Rule(["abcd"], "z", ["efg"], ["ab"]), Rule(["e"], "Z", None, ["|"])])])
        one = machine_of(shaper, "abcdefghijkl")
        self.assertGreater(len(one), 5)
        self.check_long(shaper, "abcdefghijkl", one)

    def test_many_rooms_by_what_is_behind(self):
        rules = [Rule([sign], sign.upper(), [sign, other]) for sign, other in zip("abcdefgh", "bcdefgha")]
        shaper = Shaper([Pass(rules)])
        begun = time.process_time()
        one = machine_of(shaper, ALL_H)
        self.assertLess(time.process_time() - begun, 20)
        self.assertGreater(len(one), 15)
        self.check_long(shaper, ALL_H, one)

    def test_two_hundred_stands(self):
        begun = time.process_time()
        one = machine_of(STANDS_200, ALL_G)
        self.assertLess(time.process_time() - begun, 20)
        self.check_long(STANDS_200, ALL_G, one)

    def test_more_are_too_many(self):
        self.refused(TooMuch, 200, machine_of, STANDS_201, ALL_H)

    def test_letters_are_refused_ahead_of_all_else(self):
        for letters in no_letters():
            self.refused(NoRule, "letters", machine_of, Shaper(), letters)
            self.refused(NoRule, "letters", machine_of, STANDS_201, letters)

    def test_by_names(self):
        self.assertEqual(machine_of(letters="ab", shaper=Shaper()), machine_of(Shaper(), "ab"))


if __name__ == "__main__":
    unittest.main()
