"""[29] to [31]: papers."""

import random
import unittest

from markseam.errors import NoPaper, NoRule, TooMuch
from markseam.least import machine_of
from markseam.machine import Machine
from markseam.papers import check_paper, paper_of
from markseam.passes import Pass
from markseam.rules import Rule
from markseam.shaper import Shaper
from markseam.stands import ended, fed, stands_of, start
from tests.helpers import (
    ALL_G, ALL_H, STANDS_200, STANDS_201, SeamCase, no_letters, no_lists, no_texts, no_wholes, shaper_by, words)

# f and i join to F; the machine waits with f as the shaper does.
JOIN = Shaper([Pass([Rule(["f", "i"], "F")])])
# An f is told late by the shaper, and at once by the machine.
SLOW = Shaper([Pass([Rule(["f", "i"], "fg"), Rule(["k"], "", ["g"], ["k", "|"])])])
TWO = Shaper([Pass([Rule(["a"], "ab", None, ["a"])]), Pass([Rule(["b", "a"], "c", ["a"]), Rule(["b"], "", ["|"])])])
SHAPERS = ((JOIN, "fi"), (SLOW, "fik"), (TWO, "ab"), (Shaper(), "ba"), (Shaper([Pass()] * 2), "a"))


def rightly_formed(shaper, machine, thing):
    """Whether a thing is a tuple (stand, room, more) as the document has it; things are plain here."""
    if type(thing) is not tuple or len(thing) != 3:
        return False
    stand, room, more = thing
    if type(stand) is not tuple or len(stand) != len(shaper) or type(room) is not int or type(more) is not str:
        return False
    for pair, one in zip(stand, shaper.passes()):
        if type(pair) is not tuple or len(pair) != 2 or not all(type(text) is str for text in pair):
            return False
        if len(pair[0]) > one.back() or len(pair[1]) >= one.reach():
            return False
    return 0 <= room < len(machine) and (more == "" or more.isalpha())


def first_bad(shaper, machine, paper):
    """The number that check_paper must tell, None of a paper that shows it: said once more, as the document does."""
    if not paper:
        return 0
    for number, thing in enumerate(paper):
        if not rightly_formed(shaper, machine, thing):
            return number
        stand, room, more = thing
        if stand in [one[0] for one in paper[:number]]:
            return number
        if number == 0 and thing != (start(shaper), 0, machine.first()):
            return number
        end, ways = machine.rooms()[room]
        if ended(shaper, stand) != more + end:
            return number
        for letter, (text, goal) in zip(machine.letters(), ways):
            told, then = fed(shaper, stand, letter)
            if not (more + text).startswith(told) or (then, goal, (more + text)[len(told):]) not in paper:
                return number
    return None


class PaperCase(SeamCase):
    def check(self, shaper, machine, paper):
        """Ask check_paper, hold it against first_bad, and tell the number or None."""
        number = first_bad(shaper, machine, paper)
        if number is None:
            self.assertIsNone(check_paper(shaper, machine, paper))
        else:
            self.refused(NoPaper, number, check_paper, shaper, machine, paper)
        return number


class PaperOf(PaperCase):
    def test_told(self):
        self.assertEqual(paper_of(JOIN, "fi"), [
            ((("", ""),), 0, ""), ((("", "f"),), 1, ""), ((("", "i"),), 0, "i")])
        self.assertEqual(paper_of(Shaper(), "ab"), [((), 0, "")])

    def test_more_is_what_the_machine_told_sooner(self):
        told = paper_of(SLOW, "fik")
        self.assertIn("f", [more for stand, room, more in told])
        self.assertEqual(self.check(SLOW, machine_of(SLOW, "fik"), told), None)

    def test_the_first_is_the_begin(self):
        for shaper, letters in SHAPERS:
            self.assertEqual(paper_of(shaper, letters)[0], (start(shaper), 0, machine_of(shaper, letters).first()))

    def test_one_for_each_stand_in_their_order(self):
        for shaper, letters in SHAPERS:
            self.assertEqual([thing[0] for thing in paper_of(shaper, letters)],
                             [row[0] for row in stands_of(shaper, letters)])

    def test_held_against_words(self):
        chance = random.Random(35)
        held = 0
        for shaper, letters in SHAPERS + tuple((shaper_by(chance), "ba") for _ in range(40)):
            try:
                told = {stand: (room, more) for stand, room, more in paper_of(shaper, letters)}
            except TooMuch:
                continue
            held += 1
            machine = machine_of(shaper, letters)
            for word in words(letters, 5):
                stand, text = start(shaper), ""
                for sign in word:
                    said, stand = fed(shaper, stand, sign)
                    text += said
                room, more = told[stand]
                self.assertEqual((text + more, room), machine.told(word))
        self.assertGreater(held, 30)

    def test_kinds(self):
        for thing in paper_of(SLOW, "fik"):
            self.assertEqual([type(one) for one in (thing,) + thing], [tuple, tuple, int, str])

    def test_what_is_told_is_the_askers_own(self):
        told = paper_of(JOIN, "fi")
        told.clear()
        self.assertEqual(len(paper_of(JOIN, "fi")), 3)

    def test_by_names(self):
        self.assertEqual(paper_of(letters="fi", shaper=JOIN), paper_of(JOIN, "fi"))

    def test_two_hundred_stands(self):
        told = paper_of(STANDS_200, ALL_G)
        self.assertEqual(len(told), 200)
        self.assertIsNone(check_paper(STANDS_200, machine_of(STANDS_200, ALL_G), told))

    def test_refused_as_stands_of(self):
        self.refused(TooMuch, 200, paper_of, STANDS_201, ALL_H)
        for letters in no_letters():
            self.refused(NoRule, "letters", paper_of, JOIN, letters)
            self.refused(NoRule, "letters", paper_of, STANDS_201, letters)


class GoodPapers(PaperCase):
    def test_the_own_paper_of_each(self):
        chance = random.Random(36)
        held = 0
        for shaper, letters in SHAPERS + tuple((shaper_by(chance), "cab") for _ in range(40)):
            try:
                paper = paper_of(shaper, letters)
            except TooMuch:
                continue
            held += 1
            self.assertIsNone(check_paper(shaper, machine_of(shaper, letters), paper))
            if len(paper) < 30:
                self.assertIsNone(self.check(shaper, machine_of(shaper, letters), paper))
        self.assertGreater(held, 30)

    def test_a_machine_that_is_not_the_least_one(self):
        for shaper, letters in SHAPERS:
            rows = stands_of(shaper, letters)
            machine = Machine(letters, [(end, ways) for stand, end, ways in rows])
            paper = [(stand, number, "") for number, (stand, end, ways) in enumerate(rows)]
            self.assertIsNone(self.check(shaper, machine, paper))

    def test_a_room_too_many_does_no_harm(self):
        machine = machine_of(JOIN, "fi")
        larger = Machine("fi", machine.rooms() + [("q", [("q", 0)] * 2)])
        self.assertIsNone(self.check(JOIN, larger, paper_of(JOIN, "fi")))

    def test_things_behind_the_first_in_any_order(self):
        paper = paper_of(SLOW, "fik")
        self.assertIsNone(self.check(SLOW, machine_of(SLOW, "fik"), paper[:1] + paper[:0:-1]))

    def test_letters_in_another_order(self):
        self.assertIsNone(self.check(SLOW, machine_of(SLOW, "kif"), paper_of(SLOW, "kif")))

    def test_a_stand_to_which_no_word_leads_may_stand_in_it(self):
        shaper = Shaper([Pass([Rule(["a"], "b", ["a"])])])
        machine = machine_of(shaper, "a")
        paper = paper_of(shaper, "a")
        more = ((("x", ""),), machine.told("")[1], "")
        self.assertNotIn(more[0], [thing[0] for thing in paper])
        self.assertIsNone(self.check(shaper, machine, paper + [more]))

    def test_what_is_handed_in_stays(self):
        paper = paper_of(JOIN, "fi")
        check_paper(JOIN, machine_of(JOIN, "fi"), paper)
        self.assertEqual(paper, paper_of(JOIN, "fi"))

    def test_by_names(self):
        self.assertIsNone(check_paper(paper=paper_of(JOIN, "fi"), machine=machine_of(JOIN, "fi"), shaper=JOIN))


class BadPapers(PaperCase):
    def setUp(self):
        self.machine = machine_of(SLOW, "fik")
        self.paper = paper_of(SLOW, "fik")

    def bad(self, number, paper):
        self.assertEqual(self.check(SLOW, self.machine, paper), number)

    def test_no_list_and_an_empty_one(self):
        for thing in no_lists() + [None, tuple(self.paper), {0: self.paper[0]}]:
            self.refused(NoPaper, 0, check_paper, SLOW, self.machine, thing)
        self.refused(NoPaper, 0, check_paper, SLOW, self.machine, [])

    def test_a_thing_left_out(self):
        for number in range(len(self.paper)):
            left = self.paper[:number] + self.paper[number + 1:]
            self.assertIsNotNone(self.check(SLOW, self.machine, left))

    def test_a_stand_told_twice(self):
        for number, thing in enumerate(self.paper):
            self.bad(len(self.paper), self.paper + [thing])
            self.bad(number + 1, self.paper[:number + 1] + [thing] + self.paper[number + 1:])
            self.bad(len(self.paper), self.paper + [(thing[0], (thing[1] + 1) % len(self.machine), thing[2])])

    def test_another_room(self):
        for number, (stand, room, more) in enumerate(self.paper):
            for other in range(len(self.machine)):
                if other != room:
                    changed = list(self.paper)
                    changed[number] = (stand, other, more)
                    self.assertIsNotNone(self.check(SLOW, self.machine, changed))

    def test_a_room_that_is_none(self):
        for number, (stand, room, more) in enumerate(self.paper):
            for other in [-1, len(self.machine), len(self.machine) + 1, 10 ** 30, -len(self.machine)] + no_wholes():
                changed = list(self.paper)
                changed[number] = (stand, other, more)
                at = min([number] + [k for k in range(number) if self.leads(k, number)])
                self.refused(NoPaper, at, check_paper, SLOW, self.machine, changed)

    def leads(self, source, number):
        """Whether the one thing of the paper asks for the other one."""
        stand = self.paper[source][0]
        return self.paper[number][0] in [fed(SLOW, stand, letter)[1] for letter in "fik"]

    def test_a_truth_is_no_room_s_number(self):
        paper = paper_of(JOIN, "fi")
        machine = machine_of(JOIN, "fi")
        self.refused(NoPaper, 0, check_paper, JOIN, machine, [((("", ""),), False, "")] + paper[1:])
        self.refused(NoPaper, 0, check_paper, JOIN, machine, paper[:1] + [((("", "f"),), True, "")] + paper[2:])

    def test_more_otherwise(self):
        for number, (stand, room, more) in enumerate(self.paper):
            for other in [more + "f", "f" + more, more[1:], "q", "qq", ""]:
                if other != more:
                    changed = list(self.paper)
                    changed[number] = (stand, room, other)
                    self.assertIsNotNone(self.check(SLOW, self.machine, changed))

    def test_more_that_is_no_text_of_signs(self):
        for number, (stand, room, more) in enumerate(self.paper):
            for other in no_texts() + ["1", "f ", "|", "f\n"]:
                changed = list(self.paper)
                changed[number] = (stand, room, other)
                at = min([number] + [k for k in range(number) if self.leads(k, number)])
                self.refused(NoPaper, at, check_paper, SLOW, self.machine, changed)

    def test_no_tuple_of_three(self):
        for number, thing in enumerate(self.paper):
            at = min([number] + [k for k in range(number) if self.leads(k, number)])
            for other in no_lists() + [None, [], list(thing), thing[:2], thing + (0,), (), (thing,), "abc"]:
                changed = list(self.paper)
                changed[number] = other
                self.refused(NoPaper, at, check_paper, SLOW, self.machine, changed)
                self.refused(NoPaper, len(self.paper), check_paper, SLOW, self.machine, self.paper + [other])

    def test_a_stand_that_is_none(self):
        room, more = self.paper[0][1:]
        stands = no_lists() + no_texts() + [
            (), ("", ""), (("", ""), ("", "")), [("", "")], (["", ""],), (("",),), (("", "", ""),), ("ab",),
            (("", "ab"),), (("ff", ""),), (("1", ""),), (("", "|"),), (("", "1"),), ((None, ""),), (("", None),),
            ((b"", ""),), (("", True),), (((), ""),), (([], ""),)]
        for stand in stands:
            self.refused(NoPaper, 0, check_paper, SLOW, self.machine, [(stand, room, more)] + self.paper)
            self.refused(NoPaper, len(self.paper), check_paper, SLOW, self.machine, self.paper + [(stand, room, more)])

    def test_number_nought_must_be_the_begin(self):
        self.bad(0, self.paper[1:] + self.paper[:1])
        self.bad(0, self.paper[::-1])
        machine = Machine("ab", [("", [("", 0)] * 2)], "q")
        empty = Shaper([Pass([Rule(["ab"], "")])])
        self.assertEqual(self.check(empty, machine, [((("", ""),), 0, "q")]), 0)
        self.assertEqual(self.check(empty, machine, [((("", ""),), 0, "")]), 0)

    def test_a_paper_for_another_machine(self):
        rooms = self.machine.rooms()
        for room, (end, ways) in enumerate(rooms):
            others = [(end + "q", ways)] + [(end, ways[:k] + [(text + "q", goal)] + ways[k + 1:])
                                            for k, (text, goal) in enumerate(ways)]
            others += [(end, ways[:k] + [(text, (goal + 1) % len(rooms))] + ways[k + 1:])
                       for k, (text, goal) in enumerate(ways)]
            for other in others:
                machine = Machine("fik", rooms[:room] + [other] + rooms[room + 1:], self.machine.first())
                self.assertIsNotNone(self.check(SLOW, machine, self.paper))
        self.assertIsNotNone(self.check(SLOW, machine_of(JOIN, "fik"), self.paper))

    def test_the_machine_must_tell_what_the_shaper_told(self):
        # The rests are alike, but what stands ahead of them is not.
        machine = Machine("ab", [("", [("a", 0), ("a", 0)])])
        self.assertEqual(self.check(Shaper(), machine, [((), 0, "")]), 0)
        machine = Machine("ab", [("", [("a", 0), ("", 0)])])
        self.assertEqual(self.check(Shaper(), machine, [((), 0, "")]), 0)

    def test_a_stand_to_which_no_word_leads_must_hold_too(self):
        shaper = Shaper([Pass([Rule(["a"], "b", ["a"])])])
        machine = machine_of(shaper, "a")
        paper = paper_of(shaper, "a")
        for room, more in ((-1, ""), (len(machine), ""), (True, ""), (0, "b"), (1, ""), (None, "")):
            thing = ((("x", ""),), room, more)
            self.refused(NoPaper, len(paper), check_paper, shaper, machine, paper + [thing])
        one = Machine("a", [("", [("a", 0)])])
        paper = [((), 0, "")]
        for room in (-1, 1, False, True):
            self.refused(NoPaper, 0, check_paper, Shaper(), one, [((), room, "")])
        rules = Shaper([Pass([Rule(["p"], "b", ["a"])])])
        paper = paper_of(rules, "a") + [((("x", ""),), 0, "")]
        self.assertIsNone(check_paper(rules, one, paper))
        for room in (-1, 1, False, True):
            self.refused(NoPaper, len(paper) - 1, check_paper, rules, one, paper[:-1] + [((("x", ""),), room, "")])

    def test_a_paper_for_another_shaper(self):
        self.assertIsNotNone(self.check(JOIN, self.machine, self.paper))
        self.assertIsNotNone(self.check(Shaper(), self.machine, self.paper))
        self.assertIsNotNone(self.check(Shaper([Pass()]), self.machine, [((("", ""),), 0, "")]))

    def test_fewer_letters_of_the_machine_ask_for_less(self):
        self.assertIsNone(check_paper(SLOW, machine_of(SLOW, "f"), paper_of(SLOW, "f")))
        self.assertIsNotNone(self.check(SLOW, self.machine, paper_of(SLOW, "f")))

    def test_the_first_bad_thing_is_told(self):
        changed = self.paper + [None, 0]
        self.bad(len(self.paper), changed)
        changed[len(self.paper) - 1] = True
        self.assertLess(self.check(SLOW, self.machine, changed), len(self.paper))

    def test_changed_by_chance(self):
        chance = random.Random(37)
        for _ in range(300):
            changed = list(self.paper)
            for _ in range(chance.randrange(1, 3)):
                at = chance.randrange(len(changed))
                stand, room, more = changed[at]
                changed[at] = chance.choice([
                    (stand, chance.randrange(len(self.machine)), more), (stand, room, more[1:]),
                    (stand, room, more + "g"), (chance.choice(self.paper)[0], room, more), chance.choice(self.paper)])
            self.check(SLOW, self.machine, changed)


if __name__ == "__main__":
    unittest.main()
