"""[63] to [67]: texts."""

import random
import re
import time
import unittest

from markseam.errors import NoText
from markseam.machine import Machine
from markseam.passes import Pass
from markseam.rules import Rule
from markseam.shaper import Shaper
from markseam.texts import read_machine, read_rule, read_shaper, shown_machine, shown_rule, shown_shaper
from tests.helpers import SIGNS, SeamCase, machine_by, no_texts, rule_by, shaper_by, word_by, words

LOSE = Machine("ab", [("", [("a", 1), ("b", 0)]), ("", [("a", 1), ("", 0)])])
LOSE_TEXT = "ab/\n/a>1/b>0\n/a>1/>0\n"
SHAPER = Shaper([Pass([Rule(["f"], "F", None, ["i"])]), Pass()])
SHAPER_TEXT = "pass\n/f/i>F\npass\n"
STRANGE = ["", " ", "1", "0", "a", "z", "A", "Z", "p", "|", ".", "/", ">", "-", "~", "\n"]


def are_places(texts):
    return all(re.fullmatch("[A-Za-z]+", text) and sorted(set(text)) == list(text) for text in texts)


def is_rule_text(text):
    """Whether a text is that of some Rule, as 15 to 18 tell it."""
    found = re.fullmatch(r"([^/>]*)/([^/>]*)/([^/>]*)>([A-Za-z]{0,3})", text)
    if not found:
        return False
    behind, what, ahead = ([] if part == "" else part.split(".") for part in found.groups()[:3])
    if max(len(behind), len(ahead)) > 2 or not 1 <= len(what) <= 3 or not are_places(what):
        return False
    return are_places(behind[1:] if behind[:1] == ["|"] else behind) and are_places(
        ahead[:-1] if ahead[-1:] == ["|"] else ahead)


def rule_ends(start):
    """Texts of which one makes a Rule's text of each text with which one begins."""
    return [sign + end for sign in ("", "z") for end in ("", ">", "/>", "/a/>")]


def is_shaper_text(text):
    if text == "":
        return True
    rows = text.split("\n")
    if rows.pop() != "" or rows[0] != "pass":
        return False
    many = []
    for row in rows:
        if row == "pass":
            many.append(0)
        elif is_rule_text(row):
            many[-1] += 1
        else:
            return False
    return len(many) <= 4 and max(many) <= 8


def shaper_ends(start):
    return [""] + ["pass\n"[at:] for at in range(5)] + [end + "\n" for end in rule_ends(start)]


def is_machine_text(text):
    rows = text.split("\n")
    if rows.pop() != "" or not 2 <= len(rows) <= 201:
        return False
    letters, slash, first = rows[0].partition("/")
    if not re.fullmatch("[A-Za-z]{1,16}", letters) or len(set(letters)) != len(letters) or slash != "/":
        return False
    way = "/[A-Za-z]*>(0|[1-9][0-9]*)"
    if not re.fullmatch("[A-Za-z]*", first) or not all(re.fullmatch(f"[A-Za-z]*({way}){{{len(letters)}}}", row)
                                                      for row in rows[1:]):
        return False
    return all(int(number) < len(rows) - 1 for row in rows[1:] for number in re.findall(">([0-9]+)", row))


def machine_ends(start):
    """Here rows are added till there are 200, so that there is each room."""
    if "\n" not in start:
        if "/" not in start:
            sign = [one for one in SIGNS if one not in start][0]
            return [more + "/\n" + ("/>0" * len(start + more) + "\n") for more in ("", sign)]
        return ["\n" + "/>0" * start.index("/") + "\n"]
    many = start.partition("\n")[0].find("/")
    row = "/>0" * many + "\n"
    rows = row * (200 - start.count("\n"))
    return [row * (201 - start.count("\n"))] + [
        token + "/>0" * more + "\n" + rows for token in ("", ">0", "0") for more in range(many + 1)]


class TextsCase(SeamCase):
    def check(self, read, is_text, ends, text):
        """Hold what a function does with a text against what the texts of this kind are."""
        if is_text(text):
            read(text)
            return
        with self.assertRaises(NoText) as caught:
            read(text)
        at = caught.exception.at
        self.assertIs(type(at), int)
        self.assertTrue(0 <= at <= len(text), (text, at))
        self.assertTrue(any(is_text(text[:at] + end) for end in ends(text[:at])), (text, at))
        if at < len(text):
            start = text[:at + 1]
            self.assertFalse(any(is_text(start + end) for end in ends(start)), (text, at))

    def check_around(self, read, is_text, ends, text):
        """A text cut off, and with a sign put in, left out, exchanged, at each place."""
        for at in range(len(text) + 1):
            self.check(read, is_text, ends, text[:at])
            for sign in STRANGE:
                self.check(read, is_text, ends, text[:at] + sign + text[at:])
                self.check(read, is_text, ends, text[:at] + sign + text[at + 1:])

    def check_rows(self, read, is_text, ends, text):
        """A text with a row left out, twice, or exchanged with the next one."""
        rows = text.splitlines(keepends=True)
        for at in range(len(rows)):
            for changed in (rows[:at] + rows[at + 1:], rows[:at] + [rows[at]] * 2 + rows[at + 1:],
                            rows[:at] + rows[at:at + 2][::-1] + rows[at + 2:]):
                self.check(read, is_text, ends, "".join(changed))


class Rules(TextsCase):
    ARGUMENTS = (read_rule, is_rule_text, rule_ends)

    def check_rule(self, text):
        self.check(read_rule, is_rule_text, rule_ends, text)

    def test_shown(self):
        rows = [(Rule(["f"], "F", None, ["i"]), "/f/i>F"), (Rule(["k", "q"], "K", ["|", "ae"], ["i"]), "|.ae/k.q/i>K"),
                (Rule(["ba"], ""), "/ab/>"), (Rule(["zA"], "zAz", ["|"], ["|"]), "|/Az/|>zAz"),
                (Rule(["a", "b", "c"], "", ["d", "e"], ["f", "|"]), "d.e/a.b.c/f.|>")]
        for rule, text in rows:
            self.assertEqual(shown_rule(rule), text)
            self.assertEqual(str(rule), text)
            self.assertEqual(read_rule(text), rule)

    def test_each_rule_shown_and_read_again_is_equal(self):
        chance = random.Random(63)
        seen = {}
        for _ in range(2000):
            rule = rule_by(chance, "abC")
            text = shown_rule(rule)
            self.assertEqual(read_rule(text), rule)
            self.assertEqual(seen.setdefault(text, rule), rule)
            self.assertTrue(is_rule_text(text))
        rule = Rule([SIGNS] * 3, "zzz", [SIGNS[::-1]] * 2, ["|"])
        self.assertEqual(read_rule(shown_rule(rule)), rule)

    def test_what_is_read_makes_the_same_rows(self):
        chance = random.Random(64)
        for _ in range(200):
            rule = rule_by(chance, "abc")
            one, other = Pass([rule]), Pass([read_rule(shown_rule(rule))])
            for text in ("", "abc", "aabbcc", "cabbac"):
                self.assertEqual(one.row(text), other.row(text))

    def test_examples(self):
        for text, at in (("/b.a", 4), ("/ba/>K", 2), ("|./a/>", 2), ("/a/|.", 4)):
            self.refused(NoText, at, read_rule, text)

    def test_edges(self):
        rows = [("", 0), ("/", 1), ("//", 1), ("a", 1), ("/a", 2), ("/a/", 3), ("/a/>abcd", 7), ("/a/>a ", 5),
                ("/a/>\n", 4), ("/a/>a\n", 5), ("|", 1), ("||", 1), ("a.|/a/>", 2), ("|.|/a/>", 2), ("a.b.c/a/>", 3),
                ("|.b.c/a/>", 3), ("/|/>", 1), ("/a.b.c.d/>", 6), ("/a/|b>", 4), ("/a/b.|.c>", 6), ("/a/b.c.d>", 6),
                ("/aa/>", 2), ("/aA/>", 2), ("/Aa/>", None), ("/a/|>", None), ("|/a/>", None), (" /a/>", 0),
                ("/a/ >", 3), ("/a/> ", 4), ("/a/>>", 4), ("/a//", 3), ("a./a/>", 2), (".a/a/>", 0), ("/a./>", 3),
                ("/a/b.>", 5), ("/a/.b>", 3), ("-", 0), ("/z/>", None), ("/az/>", None), ("/za", 2), ("pass", 1)]
        for text, at in rows:
            if at is None:
                self.assertEqual(shown_rule(read_rule(text)), text)
            else:
                self.refused(NoText, at, read_rule, text)
            self.check_rule(text)

    def test_all_short_texts(self):
        for text in words("ab|./>", 5):
            self.check_rule(text)

    def test_texts_changed_a_little(self):
        for text in ("|.ae/k.q/i>K", "/ab/>", "a.bc/A.Bz.z/m.|>xYz", "|/a/|>p"):
            self.check_around(*self.ARGUMENTS, text)
        chance = random.Random(65)
        for _ in range(30):
            self.check_around(*self.ARGUMENTS, shown_rule(rule_by(chance, "abAZ")))

    def test_texts_by_chance(self):
        chance = random.Random(66)
        for _ in range(5000):
            self.check_rule(word_by(chance, "abcz|.//>>", 14))


class Shapers(TextsCase):
    ARGUMENTS = (read_shaper, is_shaper_text, shaper_ends)

    def check_shaper(self, text):
        self.check(*self.ARGUMENTS, text)

    def test_shown(self):
        two = Shaper([Pass([Rule(["f", "i"], "F")]), Pass()])
        rows = [(Shaper(), ""), (Shaper([Pass()]), "pass\n"), (Shaper([Pass()] * 4), "pass\n" * 4),
                (two, "pass\n/f.i/>F\npass\n"), (SHAPER, SHAPER_TEXT)]
        for shaper, text in rows:
            self.assertEqual(shown_shaper(shaper), text)
            self.assertEqual(read_shaper(text), shaper)
            self.assertEqual(len(read_shaper(text)), len(shaper))

    def test_each_shaper_shown_and_read_again_is_equal(self):
        chance = random.Random(67)
        for _ in range(500):
            shaper, other = shaper_by(chance), shaper_by(chance)
            text = shown_shaper(shaper)
            self.assertEqual(read_shaper(text), shaper)
            self.assertEqual(shaper == other, text == shown_shaper(other))
            self.assertTrue(is_shaper_text(text))

    def test_what_is_read_makes_the_same_rows(self):
        chance = random.Random(68)
        for _ in range(200):
            shaper = shaper_by(chance)
            for word in ("", "abc", "aabbcc", "cabbac"):
                self.assertEqual(read_shaper(shown_shaper(shaper)).row(word), shaper.row(word))

    def test_examples(self):
        for text, at in (("pass", 4), ("pass\npart", 7)):
            self.refused(NoText, at, read_shaper, text)

    def test_edges(self):
        rows = [("\n", 0), ("p", 1), ("pa", 2), ("part\n", 2), ("/a/>\n", 0), ("pass\n/a/>", 9), ("pass\n\n", 5),
                ("pass\npass", 9), ("pass\np/a/>\n", None), ("pass\npas/a/>\n", 8), ("pass\npz/a/>\n", None),
                ("pass\np", 6), ("pass\n/ba/>\n", 7), ("pass\n/a/>\n ", 10), (" pass\n", 0), ("pass \n", 4),
                ("pass\n/a/>abcd\n", 12), ("PASS\n", 0), ("pass\n|", 6), ("pass\n|p/a/>\n", 6), ("q", 0)]
        for text, at in rows:
            if at is None:
                self.assertEqual(shown_shaper(read_shaper(text)), text)
            else:
                self.refused(NoText, at, read_shaper, text)
            self.check_shaper(text)

    def test_a_fifth_pass(self):
        # Where a rule can stand a p can, too; behind it an a can't.
        self.refused(NoText, 21, read_shaper, "pass\n" * 5)
        self.refused(NoText, 21, read_shaper, "pass\n" * 4 + "p")
        text = "pass\n" * 4 + "/a/>\n" * 8
        self.assertEqual(shown_shaper(read_shaper(text)), text)
        for more in ("p", "pass\n", "/a/>\n", "\n", "q"):
            self.refused(NoText, 60, read_shaper, text + more)
        self.assertEqual(len(read_shaper("pass\n" * 4 + "p/a/>\n").passes()[3]), 1)

    def test_a_ninth_rule(self):
        text = "pass\n" + "/a/>\n" * 8
        self.assertEqual(len(read_shaper(text).passes()[0]), 8)
        self.refused(NoText, 45, read_shaper, text + "/a/>\n")
        self.refused(NoText, 46, read_shaper, text + "p/a/>\n")
        self.refused(NoText, 46, read_shaper, text + "p")
        self.assertEqual(len(read_shaper(text + "pass\n/a/>\n")), 2)

    def test_texts_changed_a_little(self):
        chance = random.Random(69)
        texts = ["pass\n" * 4, "pass\n/f.i/>F\npass\n", "pass\n" + "/a/>\n" * 8, "pass\npq/p/p>p\npass\n|/a/>\n"]
        for text in texts + [shown_shaper(shaper_by(chance, "apz")) for _ in range(12)]:
            self.check_around(*self.ARGUMENTS, text)
            self.check_rows(*self.ARGUMENTS, text)

    def test_long(self):
        rule = Rule([SIGNS] * 3, "zzz", [SIGNS] * 2, [SIGNS] * 2)
        shaper = Shaper([Pass([rule] * 8)] * 4)
        text = shown_shaper(shaper)
        self.assertGreater(len(text), 11000)
        begin = time.time()
        self.assertEqual(read_shaper(text), shaper)
        self.refused(NoText, len(text), read_shaper, text + "p" * 8000)
        self.assertLess(time.time() - begin, 5)


class Machines(TextsCase):
    ARGUMENTS = (read_machine, is_machine_text, machine_ends)

    def check_machine(self, text):
        self.check(*self.ARGUMENTS, text)

    def test_shown(self):
        rows = [(LOSE, LOSE_TEXT), (Machine("a", [("", [("", 0)])]), "a/\n/>0\n"),
                (Machine("ba", [("x", [("yz", 0), ("", 0)])], "ab"), "ba/ab\nx/yz>0/>0\n")]
        for machine, text in rows:
            self.assertEqual(shown_machine(machine), text)
            self.assertEqual(read_machine(text), machine)

    def test_each_machine_shown_and_read_again_is_equal(self):
        chance = random.Random(70)
        for _ in range(500):
            machine = machine_by(chance, chance.choice(["a", "ab", "bAc"]), 20)
            text = shown_machine(machine)
            self.assertEqual(read_machine(text), machine)
            self.assertTrue(is_machine_text(text))
            other = machine_by(chance, "a", 1)
            self.assertEqual(machine == other, text == shown_machine(other))
            for word in words(machine.letters(), 3):
                self.assertEqual(read_machine(text).row(word), machine.row(word))

    def test_examples(self):
        for text, at in (("a/\n/>200\n", 7), ("a/\n/>2\n", 7)):
            self.refused(NoText, at, read_machine, text)

    def test_edges(self):
        rows = [("", 0), ("a", 1), ("/", 0), ("a/", 2), ("a/\n", 3), ("a/\n/", 4), ("a/\n/>", 5), ("a/\n/>0", 6),
                ("aa/\n", 1), ("aba", 2), ("a\n", 1), ("a//", 2), ("a/x y\n", 3), ("a/\n/>0\n\n", 7),
                ("a/\n/>0/>0\n", 6),
                ("ab/\n/>0\n", 7), ("ab/\n/>0/>0\n", None), ("a/\n/>00\n", 6), ("a/\n/>01\n", 6), ("a/\n/>1\n", 7),
                ("a/\n/>199\n", 9), ("a/\n/>1990\n", 8), ("a/\n/>201\n", 7), ("a/\n/>-1\n", 5), ("a/\n/>a\n", 5),
                ("a/\n>0\n", 3), ("a/\nx/y>0\n", None), ("a/\nx/y>0\n ", 9), ("a/\nx/y>0\nx", 10), (" ", 0), ("1", 0),
                ("abcdefghijklmnopq/", 16), ("abcdefghijklmnop/\n" + "/>0" * 16 + "\n", None), ("|/\n/>0\n", 0),
                ("abcdefghijklmnop/\n" + "/>0" * 17, 66), ("a/\n/>20\n", 8), ("a/\n/>99\n", 8), ("a/\n/>990\n", 7),
                ("a/\n/> 0\n", 5), ("a/\n/>0 \n", 6), ("a/.\n", 2), ("a/\n.", 3)]
        for text, at in rows:
            if at is None:
                self.assertEqual(shown_machine(read_machine(text)), text)
            else:
                self.refused(NoText, at, read_machine, text)
            self.check_machine(text)

    def test_each_number_of_a_room(self):
        for many in (1, 2, 9, 10, 11, 99, 100, 101, 199, 200):
            rows = "/>0\n" * (many - 1)
            for number in (0, 1, 9, 10, 19, 20, 99, 100, 189, 190, 199):
                text = f"a/\n{rows}/>{number}\n"
                if number < many:
                    self.assertEqual(read_machine(text).rooms()[-1], ("", [("", number)]))
                else:
                    self.refused(NoText, len(text), read_machine, text)
                text = f"a/\n/>{number}\n{rows}"
                if number >= many:
                    self.refused(NoText, len(text), read_machine, text)
            for number in ("200", "299", "1000", "00", "0199", "1e", "1000000000000"):
                with self.assertRaises(NoText) as caught:
                    read_machine(f"a/\n{rows}/>{number}\n")
                self.assertLess(caught.exception.at, 5 + len(rows) + len(number))

    def test_a_201st_room(self):
        text = "a/\n" + "/>199\n" * 200
        self.assertEqual(len(read_machine(text)), 200)
        for more in ("/>0\n", "\n", "/", "a", " "):
            self.refused(NoText, len(text), read_machine, text + more)
        self.refused(NoText, len(text) - 6, read_machine, text[:-6])

    def test_texts_changed_a_little(self):
        chance = random.Random(71)
        texts = [LOSE_TEXT, "a/\n/>0\n", "ba/ab\nx/yz>1/>0\n/>0/>1\n"]
        for text in texts + [shown_machine(machine_by(chance, "ab", 12)) for _ in range(3)]:
            self.check_around(*self.ARGUMENTS, text)
            self.check_rows(*self.ARGUMENTS, text)

    def test_long(self):
        letters = SIGNS[:16]
        texts = []
        machine = Machine(letters, [("ab", [("", (room * at) % 200) for at in range(16)]) for room in range(200)])
        texts.append((shown_machine(machine), machine))
        machine = Machine("ab", [("x" * 1000, [("y" * 1000, 0), ("z" * 1000, 1)])] * 6, "w" * 1000)
        texts.append((shown_machine(machine), machine))
        begin = time.time()
        for text, machine in texts:
            self.assertGreater(len(text), 14000)
            self.assertEqual(read_machine(text), machine)
            self.refused(NoText, len(text), read_machine, text + "\n")
            self.refused(NoText, len(text) - 1, read_machine, text[:-1])
        self.assertLess(time.time() - begin, 5)


class All(SeamCase):
    def test_by_names(self):
        rule = Rule(["a"], "b")
        self.assertEqual(shown_rule(rule=rule), "/a/>b")
        self.assertEqual(shown_shaper(shaper=SHAPER), SHAPER_TEXT)
        self.assertEqual(shown_machine(machine=LOSE), LOSE_TEXT)
        self.assertEqual(read_rule(text="/a/>b"), rule)
        self.assertEqual(read_shaper(text=SHAPER_TEXT), SHAPER)
        self.assertEqual(read_machine(text=LOSE_TEXT), LOSE)

    def test_no_texts(self):
        for read in (read_rule, read_shaper, read_machine):
            for thing in no_texts():
                self.refused(NoText, -1, read, thing)

    def test_texts_of_the_other_kinds(self):
        self.refused(NoText, 0, read_shaper, "/a/>b")
        self.refused(NoText, 4, read_machine, "pasta")
        self.refused(NoText, 3, read_machine, SHAPER_TEXT)
        self.refused(NoText, 2, read_rule, LOSE_TEXT[1:])


if __name__ == "__main__":
    unittest.main()
