"""[32] to [38]: judging."""

import random
import time
import unittest

from markseam.errors import NoPaper, NoPlace, NoRoom, NoRule, TooMuch
from markseam.judging import after, alike, check_alike, idle, may_change, parting, rooms_parted, shows
from markseam.least import least_of, machine_of
from markseam.machine import Machine
from markseam.passes import Pass
from markseam.rules import Rule
from markseam.shaper import Shaper
from tests.helpers import (
    ALL_H, STANDS_201, SeamCase, machine_by, no_letters, no_lists, no_texts, no_wholes, row_by_rooms, shaper_by,
    start_of_all, words)

# Both leave out each b behind an a; the second one holds the a's back.
LOSE = Machine("ab", [("", [("a", 1), ("b", 0)]), ("", [("a", 1), ("", 0)])])
HELD = Machine("ab", [("", [("", 1), ("b", 0)]), ("a", [("a", 1), ("a", 0)])])
KEEP = Machine("ab", [("", [("a", 0), ("b", 0)])])


def first_unlike(row, other_row, letters, most):
    """The first word of at most so many letters whose rows are not the same."""
    for word in words(letters, most):
        if row(word) != other_row(word):
            return word
    return None


def ring(many, end, letters="a"):
    """A machine of so many rooms that lead to one another in a ring; the last one has the end."""
    return Machine(letters, [(end if room == many - 1 else "", [("", (room + 1) % many)] * len(letters))
                             for room in range(many)])


def rings_parted_late(many, more):
    """Two rings of numbers of rooms without a common part, whose ends are alike as long as can be."""
    length = many + more - 2
    kinds = list(range(length))
    for _ in range(length):
        for step in (many, more):
            for at in range(length - step):
                kinds[at] = kinds[at + step] = min(kinds[at], kinds[at + step])
    ends = ["x" if kind == kinds[0] else "y" for kind in kinds]
    return tuple(Machine("a", [(ends[room], [("", (room + 1) % rooms)]) for room in range(rooms)])
                 for rooms in (many, more))


def changed_a_little(one, chance):
    """A machine like another one, with one text or goal put otherwise, perhaps with the same rows."""
    rooms, first = one.rooms(), one.first()
    room, place = chance.randrange(len(rooms)), chance.randrange(len(one.letters()))
    end, ways = rooms[room]
    text, goal = ways[place]
    how = chance.randrange(4)
    if how == 0:
        rooms[room] = (end + "x", ways)
    elif how == 1:
        ways[place] = (text + "y", goal)
    elif how == 2:
        ways[place] = (text, chance.randrange(len(rooms)))
    return Machine(one.letters(), rooms, first)


class JudgeCase(SeamCase):
    def check_word(self, word, found, most):
        """Hold a first word against the one found among words of at most so many letters."""
        if found is None:
            self.assertTrue(word is None or len(word) > most)
        else:
            self.assertEqual(word, found)


class Parting(JudgeCase):
    def test_alike(self):
        for one, other in ((LOSE, LOSE), (LOSE, HELD), (HELD, LOSE), (HELD, least_of(HELD))):
            self.assertIsNone(parting(one, other))

    def test_the_first_word_that_parts(self):
        self.assertEqual(parting(LOSE, KEEP), "ab")
        self.assertEqual(parting(KEEP, HELD), "ab")
        self.assertEqual(parting(KEEP, Machine("ab", [("", [("a", 0), ("b", 0)])], "x")), "")
        self.assertEqual(parting(KEEP, Machine("ab", [("x", [("a", 0), ("b", 0)])])), "")
        self.assertEqual(parting(KEEP, Machine("ab", [("", [("a", 0), ("a", 0)])])), "b")

    def test_the_letters_own_order_counts(self):
        one = Machine("ba", [("", [("x", 1), ("x", 1)]), ("", [("x", 0), ("x", 0)])])
        other = Machine("ba", [("", [("x", 1), ("x", 1)]), ("", [("y", 0), ("y", 0)])])
        self.assertEqual(parting(one, other), "bb")

    def test_firsts_that_part(self):
        one = Machine("a", [("", [("", 0)])], "x")
        self.assertEqual(parting(one, Machine("a", [("", [("", 0)])], "y")), "")
        self.assertEqual(parting(one, Machine("a", [("x", [("x", 0)])])), "a")
        self.assertEqual(parting(one, Machine("a", [("x", [("", 0)])])), None)
        self.assertEqual(parting(one, Machine("a", [("x", [("x", 1)]), ("", [("", 1)])])), None)

    def test_a_rest_that_is_taken_up_late(self):
        one = Machine("a", [("xx", [("", 1)]), ("xx", [("", 2)]), ("xx", [("xx", 2)])])
        other = Machine("a", [("", [("", 1)]), ("", [("", 2)]), ("", [("xx", 2)])], "xx")
        self.assertIsNone(parting(one, other))
        self.assertIsNone(parting(other, one))
        late = Machine("a", [("", [("", 1)]), ("", [("", 2)]), ("", [("x", 2)])], "xx")
        self.assertEqual(parting(one, late), "aaa")

    def test_by_chance(self):
        chance = random.Random(40)
        found = {True: 0, False: 0}
        for _ in range(300):
            one = machine_by(chance, "ba")
            other = chance.choice([changed_a_little(one, chance), changed_a_little(one, chance), least_of(one),
                                   machine_by(chance, "ba")])
            word = parting(one, other)
            naive = first_unlike(lambda w: row_by_rooms(one, w), lambda w: row_by_rooms(other, w), "ba", 6)
            self.check_word(word, naive, 6)
            self.assertEqual(parting(other, one), word)
            self.assertIs(word is None, least_of(one) == least_of(other))
            found[word is None] += 1
        self.assertGreater(min(found.values()), 80)

    def test_words_longer_than_any_machine_has_rooms(self):
        begun = time.process_time()
        for many, more in ((7, 11), (3, 8), (199, 200)):
            one, other = rings_parted_late(many, more)
            self.assertEqual(parting(one, other), "a" * (many + more - 2))
            self.assertEqual(parting(other, one), "a" * (many + more - 2))
        self.assertEqual(parting(ring(199, "z"), ring(200, "z")), "a" * 198)
        self.assertLess(time.process_time() - begun, 20)

    def test_machines_walked_side_by_side_for_long(self):
        # All words have the row z; each two rooms of both rings come to stand side by side.
        one = Machine("ab", [("z", [("", (room + 1) % 13), ("", 13)]) for room in range(13)] + [
            ("z", [("", 13)] * 2)])
        long = Machine("ab", [("z", [("", (room + 1) % 17), ("", 17)]) for room in range(17)] + [
            ("z", [("", 17)] * 2)])
        self.assertIsNone(parting(one, long))
        self.assertEqual(len(alike(one, long)[1]), 13 * 17 + 1)

    def test_by_names(self):
        self.assertEqual(parting(other=KEEP, one=LOSE), "ab")

    def test_other_letters(self):
        for other in (Machine("ba", KEEP.rooms()), Machine("a", [("", [("a", 0)])]), Machine("ac", KEEP.rooms()),
                      Machine("abc", [("", [("a", 0)] * 3)])):
            for call in (parting, alike):
                self.refused(NoRule, "letters", call, KEEP, other)
                self.refused(NoRule, "letters", call, other, KEEP)
            for pairs in ([], None, [(0, 0, "", "")], 7):
                self.refused(NoRule, "letters", check_alike, KEEP, other, pairs)

    def test_large_machines_in_little_time(self):
        letters = "abcdefghijklmnop"
        one = Machine(letters, [("z", [("", (room + 1 + place * place) % 200) for place in range(16)])
                                for room in range(200)])
        other = Machine(letters, [("", [("", (room + 1) % 199)] * 16) for room in range(199)], "z")
        begun = time.process_time()
        self.assertIsNone(parting(one, other))
        self.assertLess(time.process_time() - begun, 20)


def left_over(one, other):
    many = len(start_of_all([one, other]))
    return one[many:], other[many:]


def first_bad(one, other, pairs):
    """The number that check_alike must tell of plain things, None of a list that shows it."""
    rooms, others = one.rooms(), other.rooms()
    if not pairs:
        return 0
    for number, (j, k, more, less) in enumerate(pairs):
        if more and less or not 0 <= j < len(one) or not 0 <= k < len(other):
            return number
        if number == 0 and (j, k, more, less) != (0, 0) + left_over(one.first(), other.first()):
            return number
        if more + rooms[j][0] != less + others[k][0]:
            return number
        for (text, goal), (said, last) in zip(rooms[j][1], others[k][1]):
            rest, left = left_over(more + text, less + said)
            if rest and left or (goal, last, rest, left) not in pairs:
                return number
    return None


class Alike(JudgeCase):
    def check(self, one, other, pairs):
        number = first_bad(one, other, pairs)
        if number is None:
            self.assertIsNone(check_alike(one, other, pairs))
        else:
            self.refused(NoPaper, number, check_alike, one, other, pairs)
        return number

    def test_unlike(self):
        self.assertEqual(alike(LOSE, KEEP), ("unlike", "ab"))
        self.assertEqual(alike(KEEP, Machine("ab", [("x", [("a", 0), ("b", 0)])])), ("unlike", ""))
        self.assertEqual(alike(other=KEEP, one=HELD), ("unlike", "ab"))

    def test_alike(self):
        kind, pairs = alike(LOSE, HELD)
        self.assertEqual(kind, "alike")
        self.assertEqual(sorted(pairs), [(0, 0, "", ""), (1, 1, "a", "")])
        self.assertIsNone(check_alike(LOSE, HELD, pairs))
        self.assertEqual(sorted(alike(HELD, LOSE)[1]), [(0, 0, "", ""), (1, 1, "", "a")])

    def test_told_pairs_are_good(self):
        chance = random.Random(41)
        told = 0
        for _ in range(200):
            one = machine_by(chance)
            for other in (one, least_of(one), changed_a_little(one, chance)):
                kind, thing = alike(one, other)
                if kind == "alike":
                    told += 1
                    self.assertIsNone(parting(one, other))
                    self.assertIsNone(self.check(one, other, thing))
                    self.assertEqual(alike(other, one)[0], "alike")
                else:
                    self.assertEqual((kind, thing), ("unlike", parting(one, other)))
        self.assertGreater(told, 400)

    def test_changed_by_chance(self):
        chance = random.Random(42)
        bad = 0
        for _ in range(150):
            one = machine_by(chance)
            other = least_of(one)
            pairs = alike(one, other)[1]
            for _ in range(5):
                changed = list(pairs)
                at = chance.randrange(len(changed))
                j, k, more, less = changed[at]
                changed[at] = chance.choice([(j, k, less, more), (j, k, more + "x", less), (j, k, more, less + "x"),
                                             (j, chance.randrange(len(other)), more, less), chance.choice(changed),
                                             (j, k, more[1:], less)])
                if chance.random() < 0.3:
                    changed.insert(chance.randrange(len(changed) + 1), chance.choice(pairs))
                bad += self.check(one, other, changed) is not None
        self.assertGreater(bad, 200)

    def test_things_left_out_twice_and_in_another_order(self):
        one = Machine("ab", [("q", [("x", 1), ("y", 2)]), ("p", [("x", 0), ("", 1)]), ("r", [("", 2), ("z", 1)])])
        pairs = alike(one, one)[1]
        self.assertEqual(len(pairs), 3)
        for number in range(3):
            self.assertIsNotNone(self.check(one, one, pairs[:number] + pairs[number + 1:]))
        self.assertIsNone(self.check(one, one, pairs + pairs[::-1]))
        self.assertIsNone(self.check(one, one, pairs[:1] + pairs[:0:-1]))
        self.assertEqual(self.check(one, one, pairs[::-1]), 0)

    def test_no_list_and_an_empty_one(self):
        for thing in no_lists() + [None, tuple(alike(LOSE, HELD)[1]), {0: (0, 0, "", "")}]:
            self.refused(NoPaper, 0, check_alike, LOSE, HELD, thing)
        self.refused(NoPaper, 0, check_alike, LOSE, HELD, [])

    def test_things_of_other_kinds(self):
        good = (0, 0, "", "")
        self.assertIsNone(check_alike(KEEP, KEEP, [good]))
        for thing in no_lists() + [None, [], list(good), (), good[:3], good + ("",), (good,), "abcd"]:
            self.refused(NoPaper, 0, check_alike, KEEP, KEEP, [thing])
            self.refused(NoPaper, 0, check_alike, KEEP, KEEP, [thing, good])
            self.refused(NoPaper, 1, check_alike, KEEP, KEEP, [good, thing])
        for number in no_wholes() + [-1, 1, 2, 10 ** 30]:
            self.refused(NoPaper, 1, check_alike, KEEP, KEEP, [good, (number, 0, "", "")])
            self.refused(NoPaper, 0, check_alike, KEEP, KEEP, [(number, 0, "", ""), good])
            self.refused(NoPaper, 0, check_alike, KEEP, KEEP, [(0, number, "", ""), good])
        for text in no_texts() + ["1", "|", " "]:
            self.refused(NoPaper, 1, check_alike, KEEP, KEEP, [good, (0, 0, text, "")])
            self.refused(NoPaper, 1, check_alike, KEEP, KEEP, [good, (0, 0, "", text)])
        self.refused(NoPaper, 1, check_alike, KEEP, KEEP, [good, (0, 0, "a", "a")])

    def test_a_truth_is_no_room_s_number(self):
        pairs = alike(LOSE, LOSE)[1]
        self.assertEqual(pairs, [(0, 0, "", ""), (1, 1, "", "")])
        self.refused(NoPaper, 0, check_alike, LOSE, LOSE, [pairs[0], (True, 1, "", "")])
        self.refused(NoPaper, 0, check_alike, LOSE, LOSE, [(0, False, "", ""), pairs[1]])

    def test_each_machine_s_own_rooms(self):
        two = Machine("ab", [("", [("a", 1), ("b", 0)])] * 2)
        self.assertIsNone(check_alike(two, KEEP, [(0, 0, "", ""), (1, 0, "", "")]))
        self.assertIsNone(check_alike(KEEP, two, [(0, 0, "", ""), (0, 1, "", "")]))
        self.refused(NoPaper, 2, check_alike, two, KEEP, [(0, 0, "", ""), (1, 0, "", ""), (1, 1, "", "")])

    def test_the_begin(self):
        one, other = Machine("a", [("", [("x", 0)])], "px"), Machine("a", [("x", [("x", 0)])], "p")
        self.assertIsNone(check_alike(one, other, [(0, 0, "x", "")]))
        for thing in ((0, 0, "", ""), (0, 0, "px", "p"), (0, 0, "", "x"), (0, 0, "xx", "")):
            self.refused(NoPaper, 0, check_alike, one, other, [thing, (0, 0, "x", "")])
        other = Machine("a", [("", [("x", 0)])], "py")
        for thing in ((0, 0, "x", "y"), (0, 0, "", ""), (0, 0, "x", ""), (0, 0, "", "y")):
            self.refused(NoPaper, 0, check_alike, one, other, [thing])

    def test_rests_that_both_have_signs(self):
        one, other = Machine("a", [("", [("xp", 0)])]), Machine("a", [("", [("xq", 0)])])
        self.refused(NoPaper, 0, check_alike, one, other, [(0, 0, "", ""), (0, 0, "p", "q")])

    def test_by_names(self):
        self.assertIsNone(check_alike(pairs=alike(LOSE, HELD)[1], other=HELD, one=LOSE))

    def test_what_is_told_and_handed_in(self):
        pairs = alike(LOSE, HELD)[1]
        kept = list(pairs)
        check_alike(LOSE, HELD, pairs)
        self.assertEqual(pairs, kept)
        pairs.clear()
        self.assertEqual(alike(LOSE, HELD)[1], kept)


class RoomsParted(JudgeCase):
    def test_each_two_rooms(self):
        chance = random.Random(43)
        for _ in range(60):
            one = machine_by(chance, "ba")
            for machine in (one, least_of(one)):
                rooms = machine.rooms()
                for j in range(len(machine)):
                    for k in range(len(machine)):
                        begun = [Machine("ba", swapped(rooms, number)) for number in (j, k)]
                        naive = first_unlike(begun[0].row, begun[1].row, "ba", 5)
                        self.check_word(rooms_parted(machine, j, k), naive, 5)
                        if machine is not one:
                            self.assertIs(rooms_parted(machine, j, k) is None, j == k)

    def test_the_first_text_does_not_count(self):
        one = Machine("a", [("x", [("", 1)]), ("", [("", 1)])], "q")
        self.assertEqual(rooms_parted(one, 0, 1), "")
        self.assertEqual(rooms_parted(machine=one, k=1, j=1), None)
        self.assertEqual(rooms_parted(k=0, machine=one, j=1), "")

    def test_rooms_to_which_no_word_leads(self):
        one = Machine("a", [("x", [("y", 0)]), ("x", [("y", 2)]), ("x", [("z", 1)])])
        self.assertEqual(rooms_parted(one, 0, 2), "a")
        self.assertEqual(rooms_parted(one, 0, 1), "aa")

    def test_a_long_word(self):
        one = ring(50, "z", "ab")
        self.assertEqual(rooms_parted(one, 0, 1), "a" * 48)
        self.assertEqual(rooms_parted(one, 49, 0), "")

    def test_no_room(self):
        bad = [-1, 2, 3, 10 ** 30, -2] + no_wholes()
        for number in bad:
            self.refused(NoRoom, number, rooms_parted, LOSE, number, 0)
            self.refused(NoRoom, number, rooms_parted, LOSE, 0, number)
            self.refused(NoRoom, number, rooms_parted, LOSE, number, -7)
        self.refused(NoRoom, 5, rooms_parted, LOSE, 5, True)
        self.refused(NoRoom, True, rooms_parted, LOSE, True, 5)


def swapped(rooms, number):
    """The rooms with the one of a number and the first one in each other's places."""
    place = {number: 0, 0: number}
    moved = [(end, [(text, place.get(goal, goal)) for text, goal in ways]) for end, ways in rooms]
    moved[0], moved[number] = moved[number], moved[0]
    return moved


class After(JudgeCase):
    def test_rows_of_rows(self):
        chance = random.Random(44)
        for _ in range(100):
            one, other = machine_by(chance, "ba"), machine_by(chance, "xy")
            told = after(one, other)
            self.assertEqual(told.letters(), "ba")
            self.assertEqual(least_of(told), told)
            for word in words("ba", 6):
                self.assertEqual(told.row(word), other.row(row_by_rooms(one, word)))

    def test_of_shapers(self):
        one = Shaper([Pass([Rule(["f", "i"], "F"), Rule(["k"], "")])])
        other = Shaper([Pass([Rule(["F"], "xy", ["i"]), Rule(["f"], "g", None, ["|"])])])
        self.assertEqual(after(machine_of(one, "fik"), machine_of(other, one.signs("fik"))),
                         machine_of(one.then(other), "fik"))

    def test_first_and_end(self):
        one = Machine("a", [("y", [("xy", 0)])], "x")
        other = Machine("xy", [("E", [("p", 1), ("q", 0)]), ("F", [("r", 0), ("s", 1)])], "G")
        told = after(other=other, one=one)
        self.assertEqual([told.row(word) for word in ("", "a", "aa")], ["GpsF", "GprqqE", "GprqpssF"])

    def test_signs_that_are_no_letters_of_the_other(self):
        other = Machine("xy", [("", [("x", 0), ("y", 0)])])
        rooms = [("", [("x", 0)]), ("y", [("y", 1)])]
        self.assertEqual(after(Machine("a", rooms, "x"), other).row("a"), "xx")
        for sign in ("z", "A", "xz", "X"):
            self.refused(NoRule, "letters", after, Machine("a", rooms, sign), other)
            for end, ways in ((sign, [("", 0)]), ("", [(sign, 0)]), ("", [(sign, 1)])):
                self.refused(NoRule, "letters", after, Machine("a", [(end, ways)] + rooms[1:]), other)
                # To the second room no word leads.
                self.refused(NoRule, "letters", after, Machine("a", rooms[:1] + [(end, ways)]), other)

    def test_just_two_hundred_pairs(self):
        one = Machine("a", [("", [("x", (room + 1) % 8)]) for room in range(8)])
        told = after(one, ring(25, "z", "x"))
        self.assertEqual([told.row("a" * many) for many in (23, 24, 25, 49)], ["", "z", "", "z"])
        self.assertEqual(len(told), 25)

    def test_more_are_too_many(self):
        one = Machine("a", [("", [("x", (room + 1) % 3)]) for room in range(3)])
        self.refused(TooMuch, 200, after, one, ring(67, "z", "x"))
        bad = Machine("a", one.rooms(), "y")
        self.refused(NoRule, "letters", after, bad, ring(67, "z", "x"))

    def test_pairs_to_which_no_word_leads_do_not_count(self):
        # Of twenty thousand pairs two hundred come: the one's room hangs on the other's.
        one = Machine("a", [("", [("x", (room + 1) % 100)]) for room in range(100)])
        self.assertEqual(len(after(one, ring(200, "z", "x"))), 200)

    def test_long_texts(self):
        one = Machine("a", [("x" * 1000, [("x" * 1000, 0)])], "x" * 1000)
        self.assertEqual(after(one, Machine("x", [("", [("pq", 0)])])).row("aa"), "pq" * 4000)


ABC = Shaper([Pass([Rule(["a", "b"], "k"), Rule(["a", "b"], "m"), Rule(["b"], "a", ["k"])]),
              Pass([Rule(["k", "c"], "k"), Rule(["q"], "z")])])


class Shows(JudgeCase):
    def test_rules_that_show(self):
        self.assertEqual(shows(ABC, 0, 0, "abc"), "ab")
        self.assertEqual(shows(ABC, 0, 2, "abc"), "abb")
        self.assertEqual(shows(ABC, 1, 0, "abc"), "abc")

    def test_idle_rules(self):
        self.assertIsNone(shows(ABC, 0, 1, "abc"))
        self.assertIsNone(shows(ABC, 1, 1, "abc"))
        self.assertEqual(shows(ABC, 1, 1, "abq"), "q")
        self.assertIsNone(shows(ABC, 0, 2, "ac"))

    def test_the_letters_own_order_counts(self):
        shaper = Shaper([Pass([Rule(["ab"], "c")])])
        self.assertEqual([shows(shaper, 0, 0, letters) for letters in ("ab", "ba")], ["a", "b"])

    def test_idle(self):
        self.assertEqual(idle(ABC, "abc"), [(0, 1), (1, 1)])
        self.assertEqual(idle(ABC, "abcq"), [(0, 1)])
        self.assertEqual(idle(ABC, "c"), [(0, 0), (0, 1), (0, 2), (1, 0), (1, 1)])
        self.assertEqual(idle(Shaper(), "ab"), [])
        self.assertEqual(idle(Shaper([Pass(), Pass()]), "ab"), [])

    def test_of_two_idle_rules_one_may_be_wanted_when_the_other_is_left_out(self):
        twice = Shaper([Pass([Rule(["a"], "b"), Rule(["a"], "b")])])
        self.assertEqual(idle(twice, "a"), [(0, 0), (0, 1)])
        self.assertEqual(idle(twice.without(0, 0), "a"), [])
        over = Shaper([Pass([Rule(["a"], "b")]), Pass([Rule(["a"], "b")])])
        self.assertEqual(idle(over, "a"), [(0, 0), (1, 0)])

    def test_by_chance(self):
        chance = random.Random(45)
        found = {True: 0, False: 0}
        for shaper in [shaper_by(chance, most=2) for _ in range(50)]:
            for at, number in [(at, number) for at, one in enumerate(shaper.passes()) for number in range(len(one))]:
                other = shaper.without(at, number)
                try:
                    word = shows(shaper, at, number, "ba")
                except TooMuch:
                    continue
                self.check_word(word, first_unlike(shaper.row, other.row, "ba", 7), 7)
                found[word is None] += 1
                self.assertIs((at, number) in idle(shaper, "ba"), word is None)
        self.assertGreater(min(found.values()), 20)

    def test_the_order_of_the_refusals(self):
        for letters in no_letters():
            self.refused(NoRule, "letters", shows, ABC, 9, 9, letters)
            self.refused(NoRule, "letters", shows, STANDS_201, 0, 0, letters)
            self.refused(NoRule, "letters", idle, STANDS_201, letters)
            self.refused(NoRule, "letters", idle, Shaper(), letters)
        for number in [-1, 2, 10 ** 30] + no_wholes():
            self.refused(NoPlace, number, shows, ABC, number, -1, "abc")
            self.refused(NoPlace, number, shows, STANDS_201, 0, number, ALL_H)
        self.refused(NoPlace, 3, shows, ABC, 0, 3, "abc")
        self.refused(NoPlace, 2, shows, ABC, 1, 2, "abc")
        self.refused(NoPlace, 0, shows, Shaper([Pass()]), 0, 0, "abc")

    def test_too_many_stands(self):
        self.refused(TooMuch, 200, shows, STANDS_201, 0, 0, ALL_H)
        self.refused(TooMuch, 200, idle, STANDS_201, ALL_H)
        # Without the rule that takes all its signs away at once, there are more stands than with it.
        more = Shaper([Pass([Rule([ALL_H], "")]), STANDS_201.passes()[0]])
        self.refused(TooMuch, 200, shows, more, 0, 0, ALL_H)
        self.assertIsNone(shows(more, 1, 0, ALL_H))
        self.refused(TooMuch, 200, idle, more, ALL_H)

    def test_by_names(self):
        self.assertEqual(shows(letters="abc", number=2, at=0, shaper=ABC), "abb")
        self.assertEqual(idle(letters="abc", shaper=ABC), [(0, 1), (1, 1)])

    def test_what_is_told_is_the_askers_own(self):
        idle(ABC, "abc").clear()
        self.assertEqual(idle(ABC, "abc"), [(0, 1), (1, 1)])
        self.assertEqual(type(idle(ABC, "abc")[0]), tuple)


class MayChange(JudgeCase):
    def test_passes_that_may(self):
        shaper = Shaper([Pass([Rule(["a"], "b")]), Pass([Rule(["c"], "d")]), Pass()])
        self.assertIsNone(may_change(shaper, 0, "acx"))
        self.assertIsNone(may_change(shaper, 1, "acx"))

    def test_passes_that_may_not(self):
        shaper = Shaper([Pass([Rule(["a"], "b")]), Pass([Rule(["b"], "c")]), Pass([Rule(["c", "c"], "")])])
        self.assertEqual(may_change(shaper, 0, "ab"), "a")
        self.assertEqual(may_change(shaper, 1, "bc"), "bb")
        self.assertEqual(may_change(shaper, 1, "ac"), "aa")
        self.assertEqual(may_change(shaper, 1, "cb"), "cb")

    def test_by_chance(self):
        chance = random.Random(46)
        found = {True: 0, False: 0}
        for shaper in [shaper_by(chance) for _ in range(80)]:
            for at in range(len(shaper) - 1):
                try:
                    word = may_change(shaper, at, "ba")
                except TooMuch:
                    continue
                self.check_word(word, first_unlike(shaper.row, shaper.exchanged(at).row, "ba", 7), 7)
                found[word is None] += 1
        self.assertGreater(min(found.values()), 5)

    def test_the_order_of_the_refusals(self):
        two = Shaper([STANDS_201.passes()[0], Pass()])
        for letters in no_letters():
            self.refused(NoRule, "letters", may_change, ABC, 9, letters)
            self.refused(NoRule, "letters", may_change, two, 0, letters)
        for at in [-1, 1, 2, 10 ** 30] + no_wholes():
            self.refused(NoPlace, at, may_change, ABC, at, "abc")
            self.refused(NoPlace, at, may_change, two, at, ALL_H)
        self.refused(NoPlace, 0, may_change, Shaper(), 0, "a")
        self.refused(TooMuch, 200, may_change, two, 0, ALL_H)

    def test_too_many_stands_of_the_exchanged_one_alone(self):
        shaper = Shaper([Pass([Rule([ALL_H], "")]), STANDS_201.passes()[0]])
        self.refused(TooMuch, 200, may_change, shaper, 0, ALL_H)

    def test_by_names(self):
        self.assertEqual(may_change(at=1, letters="abc", shaper=ABC.then(Shaper([Pass([Rule(["z"], "q")])]))), None)


if __name__ == "__main__":
    unittest.main()
