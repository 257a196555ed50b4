"""[39] to [44]: rows led back."""

import random
import time
import unittest

from markseam.back import Back, check_shut, first_with
from markseam.errors import NoPaper, NoRule, NoWord
from markseam.least import machine_of
from markseam.machine import Machine
from markseam.passes import Pass
from markseam.rules import Rule
from markseam.shaper import Shaper
from markseam.signs import number_of
from tests.helpers import SIGNS, SeamCase, machine_by, no_lists, no_texts, no_wholes, row_by_rooms, words

SIXTEEN = "abcdefghijklmnop"
# Leaves out each b behind an a.
LOSE = Machine("ab", [("", [("a", 1), ("b", 0)]), ("", [("a", 1), ("", 0)])])
# Leaves out all a.
GONE = Machine("ab", [("", [("", 0), ("b", 0)])])
COPY = Machine("ba", [("", [("b", 0), ("a", 0)])])
# Each letter is an x, and so may be two of them.
DOUBLE = Machine("ab", [("", [("x", 0), ("xx", 0)])])
# Room 1 tells nothing and leads to itself by a, room 2 is never left.
STAY = Machine("ab", [("k", [("x", 1), ("y", 2)]), ("", [("", 1), ("z", 0)]), ("q", [("", 2), ("", 2)])], "F")


def having(machine, row, most):
    """The words with at most so many letters that have the row, in order."""
    return [word for word in words(machine.letters(), most) if row_by_rooms(machine, word) == row]


def goals(machine, row, thing):
    """The pairs to which letters lead from a pair, as the document says it."""
    room, at = thing
    return [(goal, at + len(text)) for text, goal in machine.rooms()[room][1] if row[at:].startswith(text)]


def pairs_by_walking(machine, row):
    """All pairs that come, rising."""
    if not row.startswith(machine.first()):
        return []
    found = [(0, len(machine.first()))]
    for thing in found:
        found.extend([goal for goal in goals(machine, row, thing) if goal not in found])
    return sorted(set(found))


def all_told(back):
    return [back.first(), back.how_many(), back.words(60), back.loop(), back.shut()]


class BackCase(SeamCase):
    def check_words(self, machine, row, most):
        """Hold all that Back tells against the words with at most so many letters that have the row."""
        back = Back(machine, row)
        found = having(machine, row, most)
        told = back.words(60)
        order = words(machine.letters(), most)
        self.assertEqual(told[:len(found)], found[:60])
        for word in told[len(found):]:
            self.assertGreater(len(word), most)
            self.assertEqual(row_by_rooms(machine, word), row)
        self.assertEqual(told, sorted(set(told), key=lambda word: number_of(word, machine.letters())))
        self.assertEqual([word for word in told if len(word) <= most], [word for word in order if word in told])
        self.assertEqual(back.first(), told[0] if told else None)
        self.check_how_many(machine, row, back, found, told)
        return back.how_many()

    def check_how_many(self, machine, row, back, found, told):
        many = back.how_many()
        if many is None:
            self.check_loop(machine, row, back.loop())
            self.assertEqual(len(told), 60)
        else:
            self.assertIsNone(back.loop())
            self.assertEqual(len(told), min(many, 60))
            self.assertGreaterEqual(many, len(found))
            if many <= 60:
                self.assertEqual(many, len(told))
        if told:
            self.assertIsNone(back.shut())
        else:
            self.assertEqual(back.shut(), pairs_by_walking(machine, row))
            self.assertIsNone(check_shut(machine, row, back.shut()))

    def check_loop(self, machine, row, loop):
        self.assertEqual([type(loop)] + [type(text) for text in loop], [tuple, str, str, str])
        ahead, again, behind = loop
        self.assertNotEqual(again, "")
        most = len(machine) * (len(row) + 1)
        self.assertLessEqual(max(len(ahead), len(again), len(behind)), most)
        for times in range(6):
            self.assertEqual(row_by_rooms(machine, ahead + again * times + behind), row)
        self.assertEqual(machine.told(ahead), machine.told(ahead + again))


class WordsOfARow(BackCase):
    def test_one_word(self):
        for word in ("", "a", "ab", "bba"):
            self.assertEqual(all_told(Back(COPY, word)), [word, 1, [word], None, None])

    def test_several_words(self):
        self.assertEqual(all_told(Back(LOSE, "aa")), ["aa", 4, ["aa", "aab", "aba", "abab"], None, None])
        self.assertEqual(all_told(Back(DOUBLE, "xxx")), ["ab", 3, ["ab", "ba", "aaa"], None, None])
        self.assertEqual(all_told(Back(LOSE, "")), ["", 1, [""], None, None])

    def test_the_letters_own_order_counts(self):
        turned = Machine("ba", [("", [("xx", 0), ("x", 0)])])
        self.assertEqual(Back(turned, "xxx").words(60), ["ba", "ab", "aaa"])
        self.assertEqual(Back(turned, "xxx").first(), "ba")

    def test_endlessly_many(self):
        back = Back(GONE, "bb")
        self.assertEqual((back.first(), back.how_many(), back.shut()), ("bb", None, None))
        self.assertEqual(back.words(5), ["bb", "abb", "bab", "bba", "aabb"])
        self.check_loop(GONE, "bb", back.loop())
        self.assertEqual(Back(GONE, "").words(4), ["", "a", "aa", "aaa"])
        self.assertEqual(len(Back(GONE, "").words(60)[-1]), 59)

    def test_none(self):
        self.assertEqual(all_told(Back(COPY, "x")), [None, 0, [], None, [(0, 0)]])
        self.assertEqual(all_told(Back(COPY, "abx")), [None, 0, [], None, [(0, 0), (0, 1), (0, 2)]])
        self.assertEqual(all_told(Back(DOUBLE, "xy")), [None, 0, [], None, [(0, 0), (0, 1)]])

    def test_the_first_text(self):
        self.assertEqual(all_told(Back(STAY, "Fk")), ["", 1, [""], None, None])
        self.assertEqual(Back(STAY, "Fx").words(3), ["a", "aa", "aaa"])
        self.assertEqual(all_told(Back(STAY, "k")), [None, 0, [], None, []])
        self.assertEqual(all_told(Back(STAY, "")), [None, 0, [], None, []])
        self.assertEqual(all_told(Back(STAY, "f")), [None, 0, [], None, []])
        self.assertEqual(all_told(Back(STAY, "F")), [None, 0, [], None, [(0, 1)]])

    def test_a_loop_that_leads_to_no_end_is_none(self):
        # Behind y room 2 goes on for ever, but never ends with the row.
        self.assertEqual(all_told(Back(STAY, "Fy")), [None, 0, [], None, [(0, 1), (2, 2)]])
        self.assertEqual(Back(STAY, "Fyq").how_many(), None)
        one = Machine("ab", [("x", [("", 1), ("", 0)]), ("y", [("", 1), ("", 1)])])
        self.assertEqual(Back(one, "x").how_many(), None)
        self.assertEqual(Back(one, "x").words(3), ["", "b", "bb"])
        two = Machine("ab", [("x", [("", 1), ("p", 0)]), ("y", [("", 1), ("", 1)])])
        self.assertEqual(all_told(Back(two, "px")), ["b", 1, ["b"], None, None])

    def test_by_chance(self):
        chance = random.Random(50)
        found = {0: 0, None: 0, "many": 0}
        for _ in range(250):
            machine = machine_by(chance, chance.choice(["ab", "ba"]))
            row = "".join(chance.choice("xy") for _ in range(chance.randrange(5)))
            if chance.random() < 0.6:
                row = machine.row("".join(chance.choice("ab") for _ in range(chance.randrange(5))))
            many = self.check_words(machine, row, 7)
            found["many" if many else many] += 1
        self.assertGreater(min(found.values()), 30)

    def test_counted_when_all_words_are_short(self):
        # What has no way without text can have no words longer than the row.
        chance = random.Random(51)
        for _ in range(60):
            rooms = [("", [(chance.choice(["x", "y", "xx"]), chance.randrange(3)) for _ in "abc"]) for _ in range(3)]
            machine = Machine("cab", rooms)
            row = "".join(chance.choice("xxy") for _ in range(6))
            self.assertEqual(Back(machine, row).how_many(), len(having(machine, row, 6)))
            self.assertEqual(Back(machine, row).words(60), having(machine, row, 6)[:60])

    def test_of_shapers(self):
        shaper = Shaper([Pass([Rule(["f", "i"], "F"), Rule(["k"], "", ["F"]), Rule(["i"], "ii", None, ["|"])])])
        for row in ("F", "Fi", "fF", "Fii", "ii", "ik", "", "k"):
            found = [word for word in words("fik", 6) if shaper.row(word) == row]
            self.assertEqual(Back(machine_of(shaper, "fik"), row).words(60)[:len(found)], found[:60])


class AskedInAnyOrder(BackCase):
    def test_each_first_and_again(self):
        for machine, row in ((LOSE, "aa"), (GONE, "bb"), (COPY, "x"), (STAY, "Fx"), (DOUBLE, "xxxx")):
            told = all_told(Back(machine, row))
            names = ["first", "how_many", "words", "loop", "shut"]
            for turn in range(5):
                back = Back(machine, row)
                for name in (names[turn:] + names[:turn]) * 2:
                    asked = getattr(back, name)(60) if name == "words" else getattr(back, name)()
                    self.assertEqual(asked, told[names.index(name)])

    def test_words_of_unlike_numbers(self):
        back = Back(GONE, "bb")
        self.assertEqual([len(back.words(many)) for many in (60, 0, 3, 60, 1)], [60, 0, 3, 60, 1])

    def test_what_is_told_is_the_askers_own(self):
        back = Back(COPY, "abx")
        back.shut().clear()
        back.words(60).append("q")
        self.assertEqual((back.shut(), back.words(60)), ([(0, 0), (0, 1), (0, 2)], []))
        back = Back(LOSE, "aa")
        back.words(60).clear()
        self.assertEqual(len(back.words(60)), 4)

    def test_the_machine_stays(self):
        rooms = STAY.rooms()
        all_told(Back(STAY, "Fx"))
        self.assertEqual((STAY.rooms(), STAY.first()), (rooms, "F"))


class HowManyWords(BackCase):
    def test_most(self):
        back = Back(DOUBLE, "x" * 20)
        told = back.words(60)
        self.assertEqual(len(told), 60)
        for many in range(61):
            self.assertEqual(back.words(many), told[:many])
        self.assertEqual(back.words(most=2), told[:2])

    def test_no_number_of_words(self):
        for machine, row in ((LOSE, "aa"), (COPY, "x"), (GONE, "")):
            back = Back(machine, row)
            for most in [-1, 61, 62, 10 ** 30, -10 ** 30] + no_wholes():
                self.refused(NoRule, "most", back.words, most)

    def test_a_number_of_a_hundred_figures_and_more(self):
        for many in (100, 500, 1000):
            ones = Machine(SIXTEEN, [("", [("x", 0)] * 16)])
            self.assertEqual(Back(ones, "x" * many).how_many(), 16 ** many)
        tribe = [1, 1]
        while len(tribe) <= 1000:
            tribe.append(tribe[-1] + tribe[-2])
        self.assertEqual(Back(DOUBLE, "x" * 1000).how_many(), tribe[1000])
        self.assertEqual(Back(DOUBLE, "x" * 1000).words(2), ["b" * 500, "a" * 2 + "b" * 499])

    def test_words_of_many_lengths(self):
        # Each word is longer than the one ahead, by one, and there are sixty-five of them.
        rooms = [("x" if room < 65 else "", [("", min(room + 1, 65))]) for room in range(66)]
        back = Back(Machine("a", rooms), "x")
        self.assertEqual(back.how_many(), 65)
        self.assertEqual(back.words(60), ["a" * many for many in range(60)])

    def test_words_that_come_again_after_long(self):
        rooms = [("x" if room == 7 else "", [("", (room + 1) % 50)]) for room in range(50)]
        back = Back(Machine("a", rooms), "x")
        self.assertEqual(back.words(60), ["a" * (7 + 50 * many) for many in range(60)])
        self.assertIsNone(back.how_many())
        self.check_loop(Machine("a", rooms), "x", back.loop())


class LongRows(BackCase):
    """A thousand signs, two hundred rooms: in little time."""

    def setUp(self):
        self.begun = time.process_time()

    def tearDown(self):
        self.assertLess(time.process_time() - self.begun, 60)

    def test_many_words(self):
        machine = Machine(SIXTEEN, [("", [("a", (room * 3 + place) % 200) for place in range(16)])
                                    for room in range(200)])
        back = Back(machine, "a" * 1000)
        self.assertEqual((back.first(), back.how_many(), back.loop()), ("a" * 1000, 16 ** 1000, None))
        self.assertEqual(back.words(20), ["a" * 999 + letter for letter in SIXTEEN] + [
            "a" * 998 + "b" + letter for letter in "abcd"])

    def test_none(self):
        machine = Machine("abc", [("", [("a" * place, (room + 1 + place) % 200) for place in range(3)])
                                  for room in range(200)])
        row = "a" * 999 + "b"
        back = Back(machine, row)
        self.assertEqual((back.first(), back.how_many(), back.words(60)), (None, 0, []))
        self.assertEqual(len(back.shut()), 200 * 1000)
        self.assertIsNone(check_shut(machine, row, back.shut()))
        # Without the pair (0, 0) the pair (199, 0), that leads to it, is the first one that does not hold.
        self.refused(NoPaper, 198999, check_shut, machine, row, back.shut()[1:])

    def test_endless(self):
        machine = Machine("ab", [("", [("a" if place or room % 2 else "", (room + 1 + place) % 200)
                                       for place in range(2)]) for room in range(200)])
        row = "a" * 1000
        back = Back(machine, row)
        for word in back.words(60) + [back.first()]:
            self.assertEqual(row_by_rooms(machine, word), row)
        self.assertEqual(back.first(), back.words(1)[0])

    def test_one_word(self):
        machine = Machine("ab", [("", [("ab", (room + 1) % 200), ("ba", (room + 1) % 200)]) for room in range(200)])
        chance = random.Random(52)
        word = "".join(chance.choice("ab") for _ in range(500))
        self.assertEqual(all_told(Back(machine, machine.row(word))), [word, 1, [word], None, None])

    def test_a_loop_far_behind(self):
        rooms = [("", [("a", room + 1), ("b", 0)]) for room in range(198)] + [("", [("", 199), ("b", 198)])] + [
            ("", [("", 198), ("c", 0)])]
        machine = Machine("ab", rooms)
        row = ("a" * 198 + "c") * 5
        back = Back(machine, row)
        self.assertIsNone(back.how_many())
        self.check_loop(machine, row, back.loop())
        self.assertEqual(back.first(), ("a" * 199 + "b") * 5)


class BackRefused(SeamCase):
    def test_what_is_no_row(self):
        for machine in (COPY, STAY):
            for thing in no_texts():
                self.refused(NoWord, -1, Back, machine, thing)
                self.refused(NoWord, -1, check_shut, machine, thing, [])
            for row, at in (("1", 0), ("ab|", 2), (" ab", 0), ("a b", 1), ("ab\n", 2)):
                self.refused(NoWord, at, Back, machine, row)
                self.refused(NoWord, at, check_shut, machine, row, None)

    def test_signs_that_the_machine_never_tells_are_signs(self):
        self.assertEqual(Back(COPY, SIGNS).how_many(), 0)

    def test_by_names(self):
        self.assertEqual(Back(row="aa", machine=LOSE).how_many(), 4)


def first_bad(machine, row, paper):
    """The number that check_shut must tell of pairs of whole numbers, None of a paper that shows it."""
    for number, (room, at) in enumerate(paper):
        if not 0 <= room < len(machine) or not 0 <= at <= len(row):
            return number
        if machine.rooms()[room][0] == row[at:]:
            return number
        if any(goal not in paper for goal in goals(machine, row, (room, at))):
            return number
    if row.startswith(machine.first()) and (0, len(machine.first())) not in paper:
        return len(paper)
    return None


class Shut(SeamCase):
    def check(self, machine, row, paper):
        number = first_bad(machine, row, paper)
        if number is None:
            self.assertIsNone(check_shut(machine, row, paper))
        else:
            self.refused(NoPaper, number, check_shut, machine, row, paper)
        return number

    def test_all_pairs_that_come_rising(self):
        chance = random.Random(53)
        told = 0
        for _ in range(200):
            machine = machine_by(chance)
            row = "".join(chance.choice("xy") for _ in range(chance.randrange(6)))
            pairs = Back(machine, row).shut()
            if pairs is not None:
                told += 1
                self.assertEqual(pairs, pairs_by_walking(machine, row))
                self.assertIsNone(self.check(machine, row, pairs))
                shuffled = pairs * 2
                chance.shuffle(shuffled)
                self.assertIsNone(self.check(machine, row, shuffled))
                for number in range(len(pairs)):
                    self.assertIsNotNone(self.check(machine, row, pairs[:number] + pairs[number + 1:]))
                    other = pairs[chance.randrange(len(pairs))]
                    self.check(machine, row, pairs[:number] + [other] + pairs[number + 1:])
        self.assertGreater(told, 60)

    def test_no_paper_shows_it_where_a_word_has_the_row(self):
        chance = random.Random(54)
        for _ in range(60):
            machine = machine_by(chance)
            row = machine.row("".join(chance.choice("ab") for _ in range(chance.randrange(4))))
            self.assertIsNone(Back(machine, row).shut())
            self.assertIsNotNone(self.check(machine, row, pairs_by_walking(machine, row)))
            self.assertIsNotNone(self.check(machine, row, []))

    def test_the_paper_s_length_where_only_the_begin_is_missing(self):
        machine = Machine("a", [("x", [("x", 1)]), ("y", [("z", 1)])])
        self.assertIsNone(check_shut(machine, "xx", [(0, 0), (1, 1)]))
        self.refused(NoPaper, 1, check_shut, machine, "xx", [(1, 1)])
        self.refused(NoPaper, 0, check_shut, machine, "xx", [])
        self.refused(NoPaper, 2, check_shut, machine, "xx", [(1, 1), (1, 0)])
        # An end that is the rest of the row is the first bad thing.
        self.refused(NoPaper, 1, check_shut, machine, "xx", [(1, 1), (0, 1)])

    def test_the_empty_paper(self):
        machine = Machine("a", [("x", [("x", 0)])], "q")
        for row in ("", "p", "pq", "xq"):
            self.assertEqual(Back(machine, row).shut(), [])
            self.assertIsNone(check_shut(machine, row, []))
        self.refused(NoPaper, 0, check_shut, machine, "q", [])
        self.refused(NoPaper, 0, check_shut, machine, "qp", [])

    def test_pairs_to_which_no_word_leads_must_hold_too(self):
        machine = Machine("a", [("x", [("y", 0)]), ("z", [("x", 1)])])
        self.assertIsNone(check_shut(machine, "xx", [(0, 0), (1, 2), (0, 2)]))
        self.refused(NoPaper, 1, check_shut, machine, "xx", [(0, 0), (1, 1)])
        self.refused(NoPaper, 1, check_shut, machine, "xx", [(0, 0), (0, 1), (0, 2)])

    def test_no_list(self):
        for thing in no_lists() + [None, ((0, 0),), {(0, 0): True}]:
            self.refused(NoPaper, 0, check_shut, COPY, "x", thing)

    def test_things_of_other_kinds(self):
        self.assertIsNone(check_shut(COPY, "x", [(0, 0)]))
        for thing in no_lists() + [None, [], [0, 0], (), (0,), (0, 0, 0), ((0, 0),), "00"]:
            self.refused(NoPaper, 0, check_shut, COPY, "x", [thing])
            self.refused(NoPaper, 0, check_shut, COPY, "x", [thing, (0, 0)])
            self.refused(NoPaper, 1, check_shut, COPY, "x", [(0, 0), thing])
        for number in no_wholes() + [-1, 1, 2, 10 ** 30]:
            self.refused(NoPaper, 1, check_shut, COPY, "x", [(0, 0), (number, 0)])
        for number in no_wholes() + [-1, 2, 3, 10 ** 30]:
            self.refused(NoPaper, 1, check_shut, COPY, "x", [(0, 0), (0, number)])
            self.refused(NoPaper, 0, check_shut, COPY, "x", [(0, number), (0, 0)])

    def test_a_truth_is_no_number(self):
        machine = Machine("a", [("", [("x", 1)]), ("q", [("y", 1)])])
        self.assertIsNone(check_shut(machine, "xy", [(0, 0), (1, 1), (1, 2)]))
        for things in ([(False, 0), (1, 1), (1, 2)], [(0, False), (1, 1), (1, 2)], [(0, 0), (True, 1), (1, 2)],
                       [(0, 0), (1, True), (1, 2)]):
            self.refused(NoPaper, 0, check_shut, machine, "xy", things)

    def test_the_row_is_refused_first(self):
        self.refused(NoWord, 0, check_shut, COPY, "1", None)
        self.refused(NoWord, -1, check_shut, COPY, [], [True])

    def test_a_paper_for_another_row_or_machine(self):
        pairs = Back(COPY, "abx").shut()
        self.refused(NoPaper, 2, check_shut, COPY, "ab", pairs)
        self.refused(NoPaper, 2, check_shut, COPY, "aba", pairs)
        self.assertIsNone(check_shut(COPY, "aby", pairs))
        self.refused(NoPaper, 0, check_shut, COPY, "ab", [(0, 0)])

    def test_by_names_and_what_is_handed_in_stays(self):
        paper = [(0, 0), (0, 0)]
        self.assertIsNone(check_shut(paper=paper, row="x", machine=COPY))
        self.assertEqual(paper, [(0, 0), (0, 0)])


class FirstWith(SeamCase):
    def test_parts_of_one_sign(self):
        self.assertEqual(first_with(COPY, "a"), "a")
        self.assertEqual(first_with(DOUBLE, "x"), "a")
        self.assertIsNone(first_with(COPY, "x"))

    def test_parts_across_the_texts_of_several_ways(self):
        self.assertEqual(first_with(COPY, "abba"), "abba")
        self.assertEqual(first_with(COPY, "abbaabab"), "abbaabab")
        one = Machine("ab", [("", [("xy", 0), ("zx", 0)])])
        self.assertEqual(first_with(one, "yzxz"), "abb")
        self.assertEqual(first_with(one, "yxyxyxyz"), "aaaab")
        self.assertEqual(first_with(one, "xzxxyzxx"), "bbaba")
        self.assertIsNone(first_with(one, "yy"))

    def test_a_part_begun_anew_within_itself(self):
        one = Machine("ab", [("", [("x", 0), ("y", 0)])])
        self.assertEqual(first_with(one, "xxyxxx"), "aabaaa")
        late = Machine("a", [("", [("xxyxx", 1)]), ("", [("yxxx", 2)]), ("", [("", 2)])])
        self.assertEqual(first_with(late, "xxyxxx"), "aa")

    def test_in_the_first_and_in_an_end(self):
        self.assertEqual(first_with(STAY, "F"), "")
        self.assertEqual(first_with(STAY, "Fk"), "")
        self.assertEqual(first_with(STAY, "k"), "")
        self.assertEqual(first_with(STAY, "Fyq"), "b")
        self.assertEqual(first_with(STAY, "q"), "b")
        self.assertEqual(first_with(STAY, "zk"), "ab")
        self.assertEqual(first_with(STAY, "xzk"), "ab")
        long = Machine("a", [("pqrstuvw", [("", 1)]), ("", [("", 1)])], "abcdefgh")
        for part in ("abcdefgh", "pqrstuvw", "efghpqrs", "h", "p", "hp"):
            self.assertEqual(first_with(long, part), "")
        self.assertIsNone(first_with(long, "qp"))

    def test_the_first_word_counts_by_length_and_then_by_the_letters_own_order(self):
        one = Machine("ba", [("", [("", 1), ("", 1)]), ("", [("x", 0), ("x", 0)])])
        self.assertEqual(first_with(one, "x"), "bb")
        two = Machine("ab", [("", [("x", 0), ("xxx", 0)])])
        self.assertEqual(first_with(two, "xxx"), "b")
        self.assertEqual(first_with(two, "xxxx"), "ab")

    def test_by_chance(self):
        chance = random.Random(55)
        found = {True: 0, False: 0}
        for _ in range(200):
            machine = machine_by(chance, "ba")
            part = "".join(chance.choice("xy") for _ in range(chance.randrange(1, 6)))
            word = first_with(machine, part)
            naive = next((one for one in words("ba", 7) if part in row_by_rooms(machine, one)), None)
            self.assertTrue(word == naive or naive is None and len(word) > 7)
            found[word is None] += 1
        self.assertGreater(min(found.values()), 30)

    def test_large_machines(self):
        rooms = [("", [("x" if room == 190 else "y", (room + 1) % 200), ("z", 0)]) for room in range(200)]
        machine = Machine("ab", rooms)
        self.assertEqual(first_with(machine, "yxyyyyyy"), "a" * 197)
        self.assertIsNone(first_with(machine, "xz" * 2))
        long = Machine("a", [("", [("x" * 1000, 1)]), ("", [("x" * 1000 + "y", 1)])])
        self.assertEqual(first_with(long, "xyxx"), "aaa")

    def test_bad_parts(self):
        for machine in (COPY, STAY):
            for part in no_texts() + ["", "abababababa", "abcdefghi", "1", "a|", " ", "F "]:
                self.refused(NoRule, "part", first_with, machine, part)

    def test_by_names(self):
        self.assertEqual(first_with(part="b", machine=COPY), "b")


if __name__ == "__main__":
    unittest.main()
