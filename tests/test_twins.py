"""[45] and [46]: twins."""

import random
import unittest

from markseam.errors import NoPaper, TooMuch
from markseam.least import machine_of
from markseam.machine import Machine
from markseam.passes import Pass
from markseam.rules import Rule
from markseam.shaper import Shaper
from markseam.twins import check_twins, twins
from tests.helpers import SeamCase, machine_by, no_lists, no_texts, no_wholes, row_by_rooms, words

COPY = Machine("ab", [("", [("a", 0), ("b", 0)])])
LOSE = Machine("ab", [("", [("a", 1), ("b", 0)]), ("", [("a", 1), ("", 0)])])
# Each letter begins with an x, and a y behind it tells that it was a b.
COUNT = Machine("ab", [("E", [("x", 0), ("xy", 0)])])


def room_knots(machine, room):
    """The knots that come of a room to which a word leads, as the document says it."""
    end, ways = machine.rooms()[room]
    found = []
    for one, (text, goal) in enumerate(ways):
        for other, (said, last) in enumerate(ways):
            if text == said and one < other or text != said and text.startswith(said):
                found.append((goal, last, text[len(said):]))
        if end.startswith(text):
            found.append((None, goal, end[len(text):]))
    return found


def next_knots(machine, knot):
    """The knots that come from a knot, as the document says it."""
    ahead, behind, rest = knot
    end, ways = machine.rooms()[behind]
    found = [(ahead, goal, rest[len(text):]) for text, goal in ways if rest.startswith(text)]
    if ahead is not None:
        found += [(goal, ahead, text[len(rest):]) for text, goal in ways
                  if len(text) > len(rest) and text.startswith(rest)]
        if end.startswith(rest):
            found.append((None, ahead, end[len(rest):]))
    return found


def rooms_reached(machine):
    found = [0]
    for room in found:
        found.extend(sorted({goal for text, goal in machine.rooms()[room][1]} - set(found)))
    return found


def source_knots(machine):
    return [knot for room in rooms_reached(machine) for knot in room_knots(machine, room)]


def knots_by_walking(machine, most=3000):
    """All knots that come, None where there are more than so many."""
    found = {}
    waiting = source_knots(machine)
    while waiting:
        knot = waiting.pop()
        if knot not in found:
            found[knot] = True
            waiting.extend(next_knots(machine, knot))
        if len(found) > most:
            return None
    return set(found)


def meets(machine, knot):
    ahead, behind, rest = knot
    return ahead is None and machine.rooms()[behind][0] == rest


def first_bad(machine, paper):
    """The number that check_twins must tell of knots of the right form, None of a paper that shows it."""
    for number, knot in enumerate(paper):
        if meets(machine, knot) or any(one not in paper for one in next_knots(machine, knot)):
            return number
    if any(knot not in paper for knot in source_knots(machine)):
        return len(paper)
    return None


def ring(ends, entry=None):
    """A ring of rooms that tell x, with ends of so many x; a room ahead of it has the end and the text."""
    if entry is None:
        return Machine("a", [("x" * many, [("x", (room + 1) % len(ends))]) for room, many in enumerate(ends)])
    rooms = [("x" * many, [("x", (room + 1) % len(ends) + 1)]) for room, many in enumerate(ends)]
    return Machine("a", [(entry[0], [(entry[1], 1)])] + rooms)


class TwinCase(SeamCase):
    def check_told(self, machine):
        """Hold what twins tells against the knots found by walking; tell its first word."""
        knots = knots_by_walking(machine)
        if knots is None:
            self.refused(TooMuch, 3000, twins, machine)
            return "much"
        told = twins(machine)
        self.assertIs(type(told), tuple)
        if any(meets(machine, knot) for knot in knots):
            kind, one, other = told
            self.assertEqual(kind, "twins")
            self.assertNotEqual(one, other)
            self.assertEqual(row_by_rooms(machine, one), row_by_rooms(machine, other))
            self.assertLessEqual(max(len(one), len(other)), 4000)
        else:
            kind, paper = told
            self.assertEqual((kind, len(paper), set(paper)), ("none", len(knots), knots))
            self.assertIsNone(check_twins(machine, paper))
        return told[0]

    def told_knots(self, machine):
        self.assertEqual(self.check_told(machine), "none")
        return set(twins(machine)[1])


class Knots(TwinCase):
    """Each of the five ways in which knots come; in each machine no more than those told."""

    def test_none_come(self):
        self.assertEqual(twins(COPY), ("none", []))

    def test_of_a_room_and_two_letters(self):
        one = Machine("ab", [("q", [("xyz", 1), ("x", 2)]), ("r", [("a", 1), ("b", 1)]), ("s", [("c", 2), ("d", 2)])])
        self.assertEqual(self.told_knots(one), {(1, 2, "yz")})
        turned = Machine("ab", [("q", [("x", 2), ("xyz", 1)])] + one.rooms()[1:])
        self.assertEqual(self.told_knots(turned), {(1, 2, "yz")})

    def test_of_a_room_and_two_letters_with_the_same_text(self):
        rooms = [("q", [("x", 1), ("x", 2)]), ("r", [("a", 1), ("b", 1)]), ("s", [("c", 2), ("d", 2)])]
        # The room of the letter that is first stands ahead; then the one behind goes on, or ends.
        told = self.told_knots(Machine("ab", rooms))
        self.assertIn((1, 2, ""), told)
        self.assertEqual(told, {(1, 2, ""), (2, 1, "c"), (2, 1, "d"), (None, 1, "s")})
        told = self.told_knots(Machine("ba", rooms))
        self.assertEqual(told, {(1, 2, ""), (2, 1, "c"), (2, 1, "d"), (None, 1, "s")})

    def test_of_a_room_and_a_letter_ahead_of_its_end(self):
        one = Machine("a", [("xyz", [("x", 1)]), ("r", [("q", 1)])])
        self.assertEqual(self.told_knots(one), {(None, 1, "yz")})
        one = Machine("a", [("xyz", [("", 1)]), ("r", [("q", 1)])])
        self.assertEqual(self.told_knots(one), {(None, 1, "xyz")})
        one = Machine("a", [("x", [("x", 1)]), ("r", [("q", 1)])])
        self.assertEqual(self.told_knots(one), {(None, 1, "")})
        one = Machine("a", [("x", [("xy", 1)]), ("r", [("q", 1)])])
        self.assertEqual(self.told_knots(one), set())

    def test_from_a_knot_by_a_text_that_is_a_beginning_of_rest(self):
        one = Machine("ab", [("q", [("xyz", 1), ("x", 2)]), ("r", [("a", 1), ("b", 1)]), ("s", [("y", 3), ("d", 2)]),
                             ("t", [("z", 4), ("zz", 4)]), ("u", [("e", 4), ("f", 4)])])
        self.assertEqual(self.told_knots(one), {
            (1, 2, "yz"), (1, 3, "z"), (1, 4, ""), (4, 1, "z"), (4, 4, "z"), (4, 1, "e"), (4, 1, "f"), (None, 1, "u")})

    def test_from_a_knot_whose_ahead_is_none(self):
        one = Machine("a", [("xyz", [("x", 1)]), ("r", [("y", 2)]), ("s", [("zz", 2)])])
        self.assertEqual(self.told_knots(one), {(None, 1, "yz"), (None, 2, "z")})

    def test_from_a_knot_by_a_text_longer_than_rest(self):
        one = Machine("ab", [("q", [("xy", 1), ("x", 2)]), ("r", [("a", 1), ("b", 1)]), ("s", [("yzz", 3), ("d", 2)]),
                             ("t", [("e", 3), ("f", 3)])])
        self.assertEqual(self.told_knots(one), {(1, 2, "y"), (3, 1, "zz")})

    def test_from_a_knot_by_the_end_of_the_room_behind(self):
        one = Machine("ab", [("q", [("xy", 1), ("x", 2)]), ("r", [("a", 1), ("b", 1)]), ("yzz", [("c", 2), ("d", 2)])])
        self.assertEqual(self.told_knots(one), {(1, 2, "y"), (None, 1, "zz")})

    def test_of_rooms_to_which_words_lead_alone(self):
        one = Machine("ab", COUNT.rooms() + [("E", [("p", 0), ("p", 1)])])
        self.assertEqual(self.told_knots(one), self.told_knots(COUNT))


class Twins(TwinCase):
    def test_machines_with_twins(self):
        for one in (LOSE, Machine("ab", [("", [("x", 0), ("x", 0)])]), Machine("a", [("", [("", 0)])]),
                    Machine("ab", [("", [("x", 0), ("xx", 0)])]), Machine("a", [("x", [("x", 1)]), ("", [("x", 1)])]),
                    Machine("ab", [("y", [("x", 1), ("xy", 0)]), ("yy", [("xx", 1), ("y", 1)])])):
            self.assertEqual(self.check_told(one), "twins")

    def test_twins_of_which_one_begins_with_the_other(self):
        self.assertEqual(sorted(twins(Machine("a", [("xx", [("x", 1)]), ("x", [("y", 1)])]))[1:]), ["", "a"])

    def test_machines_without_twins(self):
        for one in (COPY, COUNT, Machine("a", [("", [("x", 0)])]), Machine("abc", [("", [(s, 0) for s in "xyz"])])):
            self.assertEqual(self.check_told(one), "none")

    def test_ends_alone_part_the_words(self):
        one = Machine("ab", [("p", [("", 1), ("", 2)]), ("q", [("x", 1), ("y", 1)]), ("r", [("x", 2), ("y", 2)])])
        self.assertEqual(self.check_told(one), "none")
        self.assertTrue(any(ahead is None for ahead, behind, rest in twins(one)[1]))

    def test_by_chance(self):
        chance = random.Random(60)
        found = {"none": 0, "twins": 0, "much": 0}
        for _ in range(400):
            machine = machine_by(chance, chance.choice(["a", "ab", "ba"]), 3)
            kind = self.check_told(machine)
            found[kind] += 1
            rows = [row_by_rooms(machine, word) for word in words(machine.letters(), 6)]
            if kind == "none":
                self.assertEqual(len(set(rows)), len(rows))
            if kind == "twins":
                self.assertEqual(len(twins(machine)), 3)
        self.assertGreater(found["none"], 60)
        self.assertGreater(found["twins"], 60)

    def test_of_shapers(self):
        join = machine_of(Shaper([Pass([Rule(["f", "i"], "F")])]), "fiF")
        self.assertEqual(self.check_told(join), "twins")
        join = machine_of(Shaper([Pass([Rule(["f", "i"], "F")])]), "fi")
        self.assertEqual(self.check_told(join), "none")

    def test_long_twins(self):
        # A word and the one with 2968 letters more: of each three letters one tells an x.
        rooms = [("x" * 990, [("", 1)]), ("x", [("", 2)]), ("y", [("x", 0)])]
        machine = Machine("a", rooms)
        self.assertEqual(self.check_told(machine), "twins")
        kind, one, other = twins(machine)
        self.assertEqual(abs(len(one) - len(other)), 2968)

    def test_what_is_told_is_the_askers_own(self):
        told = twins(COUNT)[1]
        kept = list(told)
        told.clear()
        self.assertEqual(sorted(twins(COUNT)[1], key=str), sorted(kept, key=str))
        self.assertTrue(kept)

    def test_each_knot_once(self):
        told = twins(COUNT)[1]
        self.assertEqual(len(set(told)), len(told))

    def test_by_names(self):
        self.assertEqual(twins(machine=COPY), twins(COPY))
        self.assertIsNone(check_twins(paper=twins(COUNT)[1], machine=COUNT))


class TooManyKnots(TwinCase):
    def test_just_three_thousand_without_twins(self):
        machine = ring([1000, 1000, 1000])
        self.assertEqual(len(knots_by_walking(machine)), 3000)
        self.assertEqual(self.check_told(machine), "none")
        self.assertEqual(len(twins(machine)[1]), 3000)
        self.assertIsNone(check_twins(machine, twins(machine)[1]))

    def test_just_three_thousand_with_twins(self):
        machine = ring([1000, 1000, 999], ("x" * 999, ""))
        self.assertEqual(len(knots_by_walking(machine)), 3000)
        self.assertEqual(self.check_told(machine), "twins")

    def test_more_without_twins(self):
        machine = ring([1000, 1000, 1000], ("y", ""))
        knots = knots_by_walking(machine, 4000)
        self.assertEqual(len(knots), 3001)
        self.assertFalse(any(meets(machine, knot) for knot in knots))
        self.refused(TooMuch, 3000, twins, machine)
        # A paper may be longer than what twins tells.
        self.assertIsNone(check_twins(machine, list(knots)))

    def test_more_with_twins(self):
        machine = ring([1000, 1000, 1000], ("x" * 1000, ""))
        knots = knots_by_walking(machine, 4000)
        self.assertEqual(len(knots), 3001)
        self.assertTrue(any(meets(machine, knot) for knot in knots))
        self.refused(TooMuch, 3000, twins, machine)

    def test_many_more(self):
        letters = "abcdefghijklmnop"
        machine = Machine(letters, [("", [("x", (room * 7 + place * place) % 200) for place in range(16)])
                                    for room in range(200)])
        self.refused(TooMuch, 3000, twins, machine)


class Papers(TwinCase):
    def check(self, machine, paper):
        number = first_bad(machine, paper)
        if number is None:
            self.assertIsNone(check_twins(machine, paper))
        else:
            self.refused(NoPaper, number, check_twins, machine, paper)
        return number

    def machines(self):
        chance = random.Random(61)
        found = []
        while len(found) < 40:
            machine = machine_by(chance, "ab", 3)
            knots = knots_by_walking(machine)
            if knots and len(knots) < 60 and not any(meets(machine, knot) for knot in knots):
                found.append(machine)
        return found + [COUNT]

    def test_in_any_order_and_twice(self):
        chance = random.Random(62)
        for machine in self.machines():
            paper = twins(machine)[1] * 2
            chance.shuffle(paper)
            self.assertIsNone(self.check(machine, paper))

    def test_a_knot_left_out(self):
        told = {True: 0, False: 0}
        for machine in self.machines():
            paper = twins(machine)[1]
            for number in range(len(paper)):
                left = paper[:number] + paper[number + 1:]
                bad = self.check(machine, left)
                self.assertIsNotNone(bad)
                told[bad == len(left)] += 1
        self.assertGreater(min(told.values()), 5)

    def test_a_knot_that_meets(self):
        for machine in self.machines():
            paper = twins(machine)[1]
            for room, (end, ways) in enumerate(machine.rooms()):
                self.check(machine, paper + [(None, room, end)])
                self.refused(NoPaper, 0, check_twins, machine, [(None, room, end)] + paper)
        self.refused(NoPaper, 1, check_twins, COPY, twins(COPY)[1] + [(None, 0, "q"), (None, 0, "")])

    def test_no_paper_shows_it_where_there_are_twins(self):
        for machine in (LOSE, Machine("ab", [("", [("x", 0), ("x", 0)])]),
                        Machine("a", [("x", [("x", 1)]), ("", [("x", 1)])])):
            paper = sorted(knots_by_walking(machine), key=str)
            self.assertIsNotNone(self.check(machine, paper))
            good = [knot for knot in paper if not meets(machine, knot)]
            self.assertIsNotNone(self.check(machine, good))
            self.assertIsNotNone(self.check(machine, []))

    def test_the_paper_s_length_where_only_a_room_s_knot_is_missing(self):
        machine = Machine("ab", [("q", [("xyz", 1), ("x", 2)]), ("r", [("a", 1), ("b", 1)]),
                                 ("s", [("c", 2), ("d", 2)])])
        self.refused(NoPaper, 0, check_twins, machine, [])
        self.refused(NoPaper, 2, check_twins, machine, [(1, 1, "q"), (None, 0, "p")])
        self.assertIsNone(check_twins(machine, [(1, 1, "q"), (1, 2, "yz")]))

    def test_the_empty_paper(self):
        self.assertIsNone(check_twins(Machine("ab", [("q", [("a", 0), ("b", 0)])]), []))
        self.refused(NoPaper, 0, check_twins, COUNT, [])

    def test_knots_that_do_not_come_must_hold_too(self):
        machine = Machine("ab", [("q", [("a", 0), ("b", 0)])])
        self.assertIsNone(check_twins(machine, [(0, 0, "p"), (None, 0, "p")]))
        self.refused(NoPaper, 1, check_twins, machine, [(0, 0, "p"), (None, 0, "ab")])
        self.assertIsNone(check_twins(machine, [(None, 0, "ap"), (None, 0, "p")]))
        self.refused(NoPaper, 0, check_twins, machine, [(0, 0, "q")])

    def test_no_list(self):
        for thing in no_lists() + [None, tuple(twins(COUNT)[1]), {(0, 0, ""): True}]:
            self.refused(NoPaper, 0, check_twins, COUNT, thing)

    def test_things_of_other_kinds(self):
        machine = Machine("ab", [("q", [("a", 0), ("b", 0)])])
        good = (0, 0, "p")
        for thing in no_lists() + [None, [], list(good), (), good[:2], good + ("",), (good,), "abc"]:
            self.refused(NoPaper, 0, check_twins, machine, [thing])
            self.refused(NoPaper, 1, check_twins, machine, [good, thing, good])
        for number in no_wholes() + [-1, 1, 10 ** 30]:
            self.refused(NoPaper, 1, check_twins, machine, [good, (0, number, "p")])
            self.refused(NoPaper, 1, check_twins, machine, [good, (None, number, "p")])
            if number is not None:
                self.refused(NoPaper, 1, check_twins, machine, [good, (number, 0, "p")])
        for text in no_texts() + ["1", "|", "p ", "p\n"]:
            self.refused(NoPaper, 1, check_twins, machine, [good, (0, 0, text)])
            self.refused(NoPaper, 1, check_twins, machine, [good, (None, 0, text)])

    def test_a_truth_is_no_room_s_number(self):
        machine = Machine("ab", [("q", [("xyz", 1), ("x", 0)]), ("r", [("a", 1), ("b", 1)])])
        paper = [(1, 0, "yz")]
        self.assertIsNone(check_twins(machine, paper))
        self.refused(NoPaper, 0, check_twins, machine, [(True, 0, "yz")])
        self.refused(NoPaper, 1, check_twins, machine, paper + [(1, False, "yz")])
        # What is put for a knot that must stand in the paper does not stand for it.
        self.refused(NoPaper, 0, check_twins, COUNT, [(0, False, knot[2]) if knot[0] == 0 else knot
                                                      for knot in twins(COUNT)[1]])

    def test_what_is_handed_in_stays(self):
        paper = twins(COUNT)[1]
        kept = list(paper)
        check_twins(COUNT, paper)
        self.assertEqual(paper, kept)


if __name__ == "__main__":
    unittest.main()
