"""[55] to [57]: seams."""

import random
import time
import unittest

from markseam.errors import NoPlace, NoWord
from markseam.judging import parting
from markseam.least import least_of, machine_of
from markseam.machine import Machine
from markseam.passes import Pass
from markseam.rules import Rule
from markseam.seams import no_seam, pieces, seamless, seams
from markseam.shaper import Shaper
from tests.helpers import (
    SeamCase, machine_by, machine_of_rules, no_texts, no_wholes, row_by_rooms, word_by, words)

# a and b join.
JOIN = machine_of(Shaper([Pass([Rule(["a", "b"], "x")])]), "abc")
# d makes each c behind it to e, till an a comes.
HELD = machine_of(Shaper([Pass([Rule(["c"], "e", ["de"])])]), "acd")
KEEP = Machine("ab", [("", [("a", 0), ("b", 0)])])
# Its row of the word without signs is not empty.
ENDED = Machine("ab", [("x", [("a", 0), ("b", 0)])])


def ring(many, letters="a"):
    """Rooms in a ring; only behind the last one's letter something is told."""
    return Machine(letters, [("", [("x" if room == many - 1 else "", (room + 1) % many)] * len(letters))
                             for room in range(many)])


def line(many, letters="ab"):
    """Rooms in a line: the first letter goes on, the others back to the begin; the last room tells something."""
    return Machine(letters, [("", [("x" if room == many - 1 else "", min(room + 1, many - 1))] +
                              [("y", 0)] * (len(letters) - 1)) for room in range(many)])


def shown_by_words(machine, ahead, followers):
    """The first of the words that shows that a word's end is no seam."""
    for word in followers:
        if machine.row(ahead + word) != machine.row(ahead) + machine.row(word):
            return word
    return None


def begun_in(machine, room, first):
    """The machine, begun in another room, with another first."""
    def number(one):
        return {0: room, room: 0}.get(one, one)
    rooms = machine.rooms()
    rooms[0], rooms[room] = rooms[room], rooms[0]
    return Machine(machine.letters(), [(end, [(text, number(goal)) for text, goal in ways]) for end, ways in rooms],
                   first)


class SeamsCase(SeamCase):
    def check_by_words(self, machine, most, farthest):
        followers = words(machine.letters(), farthest)
        shown = {}
        for word in words(machine.letters(), most):
            told = no_seam(machine, word, len(word))
            if told is None or len(told) <= farthest:
                self.assertEqual(told, shown_by_words(machine, word, followers))
            else:
                self.assertIsNone(shown_by_words(machine, word, followers))
                self.assertNotEqual(machine.row(word + told), machine.row(word) + machine.row(told))
            shown[word] = told
            self.assertEqual([no_seam(machine, word, k) for k in range(len(word))],
                             [shown[word[:k]] for k in range(len(word))])
            self.assertEqual(seams(machine, word), [k for k in range(len(word) + 1) if shown[word[:k]] is None])
        return shown


class Seams(SeamsCase):
    def test_some(self):
        rows = [("", [0]), ("a", [0]), ("b", [0, 1]), ("ab", [0, 2]), ("abab", [0, 2, 4]), ("aab", [0, 3]),
                ("abb", [0, 2, 3]), ("cab", [0, 1, 3]), ("ac", [0, 2]), ("aca", [0, 2]), ("aaa", [0])]
        for word, places in rows:
            self.assertEqual(seams(JOIN, word), places, word)
        rows = [("", [0]), ("a", [0, 1]), ("d", [0]), ("dc", [0]), ("dcca", [0, 4]), ("dada", [0, 2, 4]),
                ("ccc", [0, 1, 2, 3])]
        for word, places in rows:
            self.assertEqual(seams(HELD, word), places, word)

    def test_each_place(self):
        self.assertEqual(seams(KEEP, "abba"), [0, 1, 2, 3, 4])
        self.assertEqual(no_seam(KEEP, "abba", 2), None)

    def test_begin_and_end(self):
        for word in words("abc", 4):
            self.assertEqual(seams(JOIN, word)[0], 0)
            self.assertIsNone(no_seam(JOIN, word, 0))
            self.assertEqual(len(word) in seams(JOIN, word), word[-1:] != "a")

    def test_letters_behind_the_place_change_nothing(self):
        for word in words("abc", 3):
            for more in words("abc", 2):
                self.assertEqual([k for k in seams(JOIN, word + more) if k <= len(word)], seams(JOIN, word))
                for k in range(len(word) + 1):
                    self.assertEqual(no_seam(JOIN, word + more, k), no_seam(JOIN, word, k))

    def test_a_row_of_the_word_without_signs(self):
        for word in words("ab", 3):
            self.assertEqual(seams(ENDED, word), [])
            for k in range(len(word) + 1):
                self.assertEqual(no_seam(ENDED, word, k), "")
        first = Machine("ab", [("", [("", 0), ("", 0)])], "x")
        self.assertEqual((seams(first, "ab"), no_seam(first, "ab", 1), no_seam(first, "", 0)), ([], "", ""))

    def test_first_words_that_show_it(self):
        for word, k, shown in (("a", 1, "b"), ("ca", 2, "b"), ("aa", 1, "b")):
            self.assertEqual(no_seam(JOIN, word, k), shown)
        self.assertEqual(no_seam(HELD, "d", 1), "c")
        self.assertEqual(no_seam(HELD, "dcc", 2), "c")

    def test_a_machine_that_tells_late(self):
        # Letters are told one letter later: each place is a seam all the same.
        late = Machine("ab", [("", [("", 1), ("", 2)]), ("a", [("a", 1), ("a", 2)]), ("b", [("b", 1), ("b", 2)])])
        self.assertEqual(seams(late, "abba"), [0, 1, 2, 3, 4])
        self.assertEqual(no_seam(late, "abba", 3), None)

    def test_a_machine_that_tells_one_letter_less(self):
        # The last letter is never told.
        less = Machine("ab", [("", [("", 1), ("", 2)]), ("", [("a", 1), ("a", 2)]), ("", [("b", 1), ("b", 2)])])
        self.assertEqual(seams(less, "ab"), [0])
        self.assertEqual([no_seam(less, "ab", k) for k in (0, 1, 2)], [None, "a", "a"])

    def test_behind_a_long_word_alone(self):
        many = 200
        machine = ring(many)
        self.assertEqual(seams(machine, "a" * 401), [0, 200, 400])
        for k in (1, 100, 199, 201):
            # The row is too long, as what is told ahead comes sooner.
            self.assertEqual(no_seam(machine, "a" * 401, k), "a" * (many - k % many))
        machine = line(many)
        self.assertEqual(no_seam(machine, "a" * 3, 3), "a" * (many - 3))
        self.assertEqual(seams(machine, "aabab" + "a" * 250), [0, 3, 5])

    def test_ends_that_tell_but_late(self):
        machine = Machine("a", [("x" if room == 199 else "", [("", min(room + 1, 199))]) for room in range(200)])
        self.assertEqual(no_seam(machine, "aa", 2), "a" * 197)
        self.assertEqual(seams(machine, "a" * 300), [0])

    def test_by_chance(self):
        chance = random.Random(55)
        several = 0
        for _ in range(60):
            several += "" in self.check_by_words(machine_by(chance), 3, 6).values()
        for _ in range(60):
            machine = machine_of_rules(chance)
            shown = self.check_by_words(machine, 4, 5)
            several += 1 < sum(one is None for one in shown.values())
        self.assertGreater(several, 20)

    def test_as_two_machines_are_parted(self):
        chance = random.Random(60)
        for _ in range(300):
            machine = machine_of_rules(chance) if chance.random() < 0.5 else machine_by(chance, most=8)
            word = word_by(chance, "ab", 9)
            text, room = machine.told(word)
            one, other = begun_in(machine, room, text), begun_in(machine, 0, machine.row(word) + machine.first())
            self.assertEqual(no_seam(machine, word, len(word)), parting(one, other))
            self.assertEqual(len(word) in seams(machine, word), parting(one, other) is None)

    def test_the_same_of_each_machine_with_these_rows(self):
        chance = random.Random(56)
        for _ in range(200):
            machine = machine_by(chance, most=6)
            word = word_by(chance, "ab", 9)
            self.assertEqual(seams(machine, word), seams(least_of(machine), word))
            for k in range(len(word) + 1):
                self.assertEqual(no_seam(machine, word, k) is None, k in seams(machine, word))

    def test_long_words_and_great_machines_in_little_time(self):
        begin = time.time()
        chance = random.Random(57)
        letters = "abcdefghijklmnop"
        for _ in range(3):
            rooms = [("", [("x" if room == 199 and at == 0 else "", chance.randrange(200)) for at in range(16)])
                     for room in range(200)]
            machine = Machine(letters, rooms)
            word = "".join(chance.choice(letters) for _ in range(1000))
            found = seams(machine, word)
            self.assertEqual("".join(pieces(machine, word)), word)
            for k in (1, 500, 1000):
                shown = no_seam(machine, word, k)
                self.assertEqual(shown is None, k in found)
                if shown is not None:
                    row = machine.row(word[:k] + shown)
                    self.assertNotEqual(row, machine.row(word[:k]) + machine.row(shown))
        for machine in (ring(200, letters=letters), line(200, letters)):
            self.assertLess(len(seams(machine, "a" * 1000)), 7)
            seamless(machine)
        self.assertLess(time.time() - begin, 20)

    def test_kinds(self):
        self.assertIs(type(seams(JOIN, "ab")), list)
        seams(JOIN, "ab").clear()
        self.assertEqual(seams(JOIN, "ab"), [0, 2])


class NoSeam(SeamsCase):
    def test_refused_by_the_place(self):
        for word in ("", "ab", "abc"):
            for k in (-1, len(word) + 1, 10 ** 30):
                self.refused(NoPlace, k, no_seam, JOIN, word, k)
            for thing in no_wholes():
                self.refused(NoPlace, thing, no_seam, JOIN, word, thing)
                self.refused(NoPlace, thing, no_seam, ENDED, "", thing)

    def test_refused_by_the_word_first(self):
        self.refused(NoWord, 1, no_seam, JOIN, "ad", True)
        self.refused(NoWord, -1, no_seam, JOIN, None, -1)


class Pieces(SeamsCase):
    def test_some(self):
        rows = [("", []), ("a", ["a"]), ("ab", ["ab"]), ("abab", ["ab", "ab"]), ("aabc", ["aab", "c"]),
                ("bca", ["b", "c", "a"]), ("aaa", ["aaa"])]
        for word, texts in rows:
            self.assertEqual(pieces(JOIN, word), texts, word)

    def test_cut_everywhere_and_nowhere(self):
        self.assertEqual(pieces(KEEP, "abba"), ["a", "b", "b", "a"])
        self.assertEqual(pieces(HELD, "dccdc"), ["dccdc"])
        self.assertEqual(pieces(ENDED, "abba"), ["abba"])
        self.assertEqual(pieces(ENDED, ""), [])
        self.assertEqual(pieces(KEEP, ""), [])

    def test_rows_are_joined(self):
        chance = random.Random(58)
        for _ in range(300):
            machine = machine_of_rules(chance) if chance.random() < 0.5 else machine_by(chance)
            word = word_by(chance, "ab", 10)
            texts = pieces(machine, word)
            self.assertEqual("".join(texts), word)
            self.assertNotIn("", texts)
            if machine.row("") == "":
                self.assertEqual("".join(machine.row(text) for text in texts), row_by_rooms(machine, word))
            else:
                self.assertEqual(texts, [word] if word else [])

    def test_long(self):
        self.assertEqual(pieces(JOIN, "ab" * 500), ["ab"] * 500)
        pieces(JOIN, "ab").clear()
        self.assertEqual(pieces(JOIN, "ab"), ["ab"])


class Seamless(SeamsCase):
    def is_seamless(self, machine, word):
        return all(k == 0 for k in seams(machine, word))

    def check(self, machine, most):
        """Hold what is told against all words of at most so many letters."""
        told = seamless(machine)
        self.assertIs(type(told), tuple)
        found = [word for word in words(machine.letters(), most) if self.is_seamless(machine, word)]
        if told[0] == "within":
            self.assertEqual(len(told), 2)
            self.assertTrue(self.is_seamless(machine, told[1]))
            longest = max(map(len, found))
            self.assertEqual(longest, min(len(told[1]), most))
            if longest < most:
                self.assertEqual(told[1], [word for word in found if len(word) == longest][0])
        else:
            name, ahead, again = told
            self.assertEqual(name, "never")
            self.assertNotEqual(again, "")
            self.assertLessEqual(max(len(ahead), len(again)), len(machine))
            self.assertEqual(set(ahead + again) - set(machine.letters()), set())
            for many in range(4):
                self.assertTrue(self.is_seamless(machine, ahead + again * many))
        return told[0]

    def test_each_letter_is_a_seam(self):
        self.assertEqual(seamless(KEEP), ("within", ""))
        self.assertEqual(seamless(Machine("a", [("", [("", 0)])])), ("within", ""))

    def test_longest(self):
        self.assertEqual(seamless(Machine("ab", [("", [("x", 1), ("", 0)]), ("", [("", 0), ("y", 0)])])),
        ("within", "a"))
        self.assertEqual(seamless(ring(200)), ("within", "a" * 199))

    def test_of_several_the_first(self):
        # Both b, a and c, a are as long; from c on two letters lead on.
        machine = Machine("abc", [("", [("", 0), ("", 1), ("", 2)]), ("", [("", 3), ("p", 0), ("", 0)]),
                                  ("", [("", 3), ("", 3), ("q", 0)]), ("", [("r", 0), ("s", 0), ("", 0)])])
        self.assertEqual(seamless(machine), ("within", "ba"))
        longer = machine.rooms()
        longer.append(("", [("", 0), ("", 0), ("t", 0)]))
        longer[3][1][2] = ("", 4)
        longer[2][1][0] = ("", 0)
        self.assertEqual(seamless(Machine("abc", longer)), ("within", "bac"))
        longer[1][1][0] = ("", 0)
        self.assertEqual(seamless(Machine("abc", longer)), ("within", "cbc"))

    def test_the_order_is_that_of_the_letters(self):
        rooms = [("", [("", 1), ("", 1)]), ("", [("x", 0), ("", 0)])]
        self.assertEqual(seamless(Machine("ab", rooms)), ("within", "a"))
        self.assertEqual(seamless(Machine("ba", rooms)), ("within", "b"))

    def test_never(self):
        self.assertEqual(self.check(JOIN, 4), "never")
        self.assertEqual(self.check(HELD, 4), "never")
        self.assertEqual(self.check(line(200), 3), "never")
        # One room stands ahead of the two that lead to one another.
        loop = Machine("a", [("", [("", 1)]), ("", [("x", 2)]), ("", [("y", 1)])])
        self.assertEqual(self.check(loop, 5), "never")

    def test_a_row_of_the_word_without_signs(self):
        self.assertEqual(self.check(ENDED, 3), "never")
        self.assertEqual(self.check(Machine("b", [("", [("", 0)])], "x"), 3), "never")

    def test_by_chance(self):
        chance = random.Random(59)
        told = []
        for _ in range(150):
            told.append(self.check(machine_by(chance, most=6), 6))
            told.append(self.check(machine_of_rules(chance), 6))
        for _ in range(150):
            # Ways that lead onward alone, or to the begin.
            many = chance.randrange(2, 8)
            machine = Machine("ab", [("", [(chance.choice("xy"), chance.choice([0, *range(room + 1, many)]))
                                           for _ in "ab"]) for room in range(many)])
            self.assertEqual(self.check(machine, 8), "within")
        self.assertGreater(told.count("within"), 20)
        self.assertGreater(told.count("never"), 20)


class All(SeamCase):
    def test_by_names(self):
        self.assertEqual(seams(word="ab", machine=JOIN), [0, 2])
        self.assertEqual(no_seam(k=1, word="ab", machine=JOIN), "b")
        self.assertEqual(pieces(word="abc", machine=JOIN), ["ab", "c"])
        self.assertEqual(seamless(machine=KEEP), ("within", ""))

    def test_refused(self):
        for call in (lambda word: seams(JOIN, word), lambda word: no_seam(JOIN, word, 0),
                     lambda word: pieces(JOIN, word), lambda word: seams(ENDED, word)):
            for thing in no_texts():
                self.refused(NoWord, -1, call, thing)
            for word, at in (("d", 0), ("abd", 2), ("A", 0), ("a1", 1), ("ab ", 2), ("-", 0)):
                self.refused(NoWord, at, call, word)

    def test_nothing_is_changed(self):
        rooms = JOIN.rooms()
        seams(JOIN, "abc"), no_seam(JOIN, "abc", 1), pieces(JOIN, "abc"), seamless(JOIN)
        self.assertEqual(JOIN.rooms(), rooms)


if __name__ == "__main__":
    unittest.main()
