"""[68] to [74]: the desk."""

import random
import time
import unittest

from markseam.back import Back
from markseam.carets import stops
from markseam.case import Case
from markseam.desk import Desk
from markseam.errors import (
    NoCase, NoName, NoPlace, NoRow, NoRule, NoText, NoWord, SeamError, TooMuch)
from markseam.judging import idle, may_change, parting, shows
from markseam.least import machine_of
from markseam.page import Page
from markseam.script import Script
from markseam.seams import seams
from markseam.texts import read_shaper, shown_shaper
from markseam.twins import twins
from tests.helpers import ALL_H, SIGNS, STANDS_201, SeamCase, no_texts, shaper_by, word_by

DEEDS = {
    "new": "NEW", "pass": "SET", "rule": "SET RULE", "copy": "NEW SET", "then": "NEW ONE OTHER",
    "without": "NEW SET AT NUMBER", "exchange": "NEW SET AT", "drop": "SET", "sets": "", "show": "SET",
    "row": "SET WORD", "glyphs": "SET WORD", "rank": "SIGN NUMBER", "base": "SIGN", "order": "WORD",
    "same": "WORD OTHERWORD", "shape": "SET WORD", "stops": "SET WORD", "rooms": "SET LETTERS",
    "alike": "ONE OTHER LETTERS", "shows": "SET AT NUMBER LETTERS", "idle": "SET LETTERS", "change": "SET AT LETTERS",
    "seams": "SET LETTERS WORD", "first": "SET LETTERS ROW", "many": "SET LETTERS ROW",
    "words": "SET LETTERS ROW NUMBER", "twins": "SET LETTERS", "page": "NEW SET LETTERS", "put": "PAGE AT WORD",
    "cut": "PAGE AT MANY", "undo": "PAGE", "join": "PAGE NEAR", "part": "NEW PAGE AT", "twin": "NEW PAGE",
    "close": "PAGE", "pages": "", "tell": "PAGE", "places": "PAGE",
}
# Of each kind some things that are good on the desk that desk() makes, and bad ones with their refusals.
GOOD = {
    "NEW": ["a", "z", "abcdefgh", "fi", "note"], "SET": ["fi", "two"], "ONE": ["fi", "both"], "OTHER": ["two", "both"],
    "PAGE": ["note", "both"], "NEAR": ["both", "note"], "AT": ["0"], "NUMBER": ["0"], "MANY": ["0"],
    "WORD": ["fi", "-", "f", "if"], "OTHERWORD": ["-", "ff"], "ROW": ["F", "-", "i"], "LETTERS": ["fi", "if"],
    "SIGN": ["e", "Z"], "RULE": ["/f/>", "|.ae/k.q/i>K"],
}
NAMES = ["", "-", "A", "fI", "fi1", "abcdefghi", "f.i", "a\n", "0", "f~"]
NUMBERS = ["", "-", "-1", "+1", "00", "01", "1234567890", "0000000000", "1.0", "a", "1_0", "1\n", "0x1"]
WORDS = [("", 0), ("--", 0), ("a-", 1), ("-a", 0), ("ab1", 2), ("f.i", 1), ("a\n", 1), ("|", 0)]
BAD = {
    "NEW": [(NoName, name, name) for name in NAMES],
    "SET": [(NoName, name, name) for name in NAMES + ["note", "nobody", "f"]],
    "PAGE": [(NoName, name, name) for name in NAMES + ["fi", "two", "nobody"]],
    "AT": [(NoPlace, -1, number) for number in NUMBERS],
    "WORD": [(NoWord, at, word) for word, at in WORDS],
    "LETTERS": [(NoRule, "letters", letters) for letters in ("", "-", "ff", "fi1", "abcdefghijklmnopq", "f|i")],
    "SIGN": [(NoWord, 0, sign) for sign in ("", "-", "1", "ab", "|", "e\n")],
    "RULE": [(NoText, 0, ""), (NoText, 0, "-"), (NoText, 2, "/ba/>K"), (NoText, 4, "/b.a"), (NoText, 7, "/a/>abcd"),
             (NoText, 2, "fi"), (NoText, 4, "/a/>\n")],
}
BAD["ONE"] = BAD["OTHER"] = BAD["SET"]
BAD["NEAR"] = BAD["PAGE"]
BAD["NUMBER"] = BAD["MANY"] = BAD["AT"]
BAD["OTHERWORD"] = BAD["ROW"] = BAD["WORD"]


def told(*rows):
    """A desk that was told the rows."""
    one = Desk()
    for row in rows:
        one.say(row)
    return one


def desk():
    """f joins with i in the set fi; two has two passes, the second without rules; both is a set and a page."""
    return told("new fi", "pass fi", "rule fi /f.i/>F", "new two", "pass two", "rule two /i/>j", "pass two", "new both",
                "pass both", "rule both /f/>", "rank o 2", "rank a 0", "page note fi fio", "put note 0 fif",
                "page both both fi", "put both 0 if")


def all_of(one):
    """All that a desk tells of what stands on it."""
    sets = one.say("sets").replace("-", "").split()
    pages = one.say("pages").replace("-", "").split()
    return ([(name, one.say(f"show {name}")) for name in sets], [(name, one.say(f"tell {name}")) for name in pages],
            [one.say(f"places {name}") for name in pages], one.say("order X" + SIGNS[::-1]),
            [one.say(f"same X{mark}o Xo{mark}") for mark in SIGNS])


class DeskCase(SeamCase):
    def said(self, one, *pairs):
        for row, answer in pairs:
            found = one.say(row)
            self.assertIs(type(found), str)
            self.assertEqual(found, answer, row)

    def kept(self, one, kind, field, row):
        """The row is refused, and nothing is changed."""
        before = all_of(one)
        self.refused(kind, field, one.say, row)
        self.assertEqual(all_of(one), before, row)


class Rows(DeskCase):
    def test_no_texts(self):
        one = desk()
        for thing in no_texts() + [("sets",), ["sets"], b"sets"]:
            self.kept(one, NoRow, -1, thing)

    def test_no_deeds(self):
        one = desk()
        for row in ("", " ", "  ", "set", "Sets", "SETS", "sets\n", "-", "fi", "new\nx", "say sets", " sets", "sets,"):
            self.kept(one, NoRow, row.count(" ") + 1, row)

    def test_too_few_and_too_many_things(self):
        one = desk()
        for name, kinds in DEEDS.items():
            things = [GOOD[kind][0] for kind in kinds.split()]
            self.refused(NoRow, len(things) + 2, one.say, " ".join([name] + things + ["x"]))
            self.refused(NoRow, len(things) + 3, one.say, " ".join([name] + things + ["", "x"]))
            self.refused(NoRow, len(things) + 2, one.say, " ".join([name] + things) + " ")
            self.refused(NoRow, len(things) + 2, one.say, " " + " ".join([name] + things))
            if things:
                self.refused(NoRow, len(things), one.say, " ".join([name] + things[:-1]))
                self.refused(NoRow, len(things) + 2, one.say, " ".join([name, ""] + things))
                self.refused(NoRow, 1, one.say, name)
        self.assertEqual(all_of(one), all_of(desk()))

    def test_blanks_that_make_up_the_number(self):
        one = desk()
        for row, kind, field in (("row fi ", NoWord, 0), ("row  fi", NoName, ""), ("new ", NoName, ""),
        ("rank  1", NoWord, 0),
                                 ("rank e ", NoPlace, -1), ("rooms fi ", NoRule, "letters"), ("rule fi ", NoText, 0),
                                 ("put note  f", NoPlace, -1), ("close ", NoName, ""), ("same  fi", NoWord, 0)):
            self.kept(one, kind, field, row)

    def test_each_kind_of_thing_bad_in_each_way(self):
        for name, kinds in DEEDS.items():
            kinds = kinds.split()
            for at, kind in enumerate(kinds):
                for error, field, thing in BAD[kind]:
                    things = [GOOD[other][0] for other in kinds]
                    things[at] = thing
                    self.refused(error, field, desk().say, " ".join([name] + things))
        one = desk()
        for error, field, thing in BAD["SET"]:
            self.kept(one, error, field, f"drop {thing}")

    def test_two_bad_at_once(self):
        for name, kinds in DEEDS.items():
            kinds = kinds.split()
            for at in range(len(kinds) - 1):
                error, field, thing = BAD[kinds[at]][1]
                behind = [BAD[other][0][2] for other in kinds[at + 1:]]
                things = [GOOD[other][0] for other in kinds[:at]] + [thing] + behind
                self.refused(error, field, desk().say, " ".join([name] + things))

    def test_each_deed_takes_good_things(self):
        for name, kinds in DEEDS.items():
            kinds = kinds.split()
            for at in range(6):
                things = [GOOD[kind][at % len(GOOD[kind])] for kind in kinds]
                try:
                    desk().say(" ".join([name] + things))
                except SeamError as e:
                    # In some of the sets there is no such pass or rule, and a page takes no letters of other pages.
                    self.assertIn(type(e).__name__, ("NoPlace", "NoWord"), (name, things))

    def test_by_name(self):
        self.assertEqual(Desk().say(row="sets"), "-")

    def test_a_new_desk_has_nothing(self):
        one = Desk()
        self.said(one, ("sets", "-"), ("pages", "-"), ("order Xoea", "Xoea"))

    def test_desks_side_by_side(self):
        one, other = desk(), Desk()
        self.said(other, ("sets", "-"), ("pages", "-"), ("same Xao Xoa", "unlike 1"))
        self.said(one, ("same Xao Xoa", "same"))
        self.said(other, ("new fi", "ok"), ("show fi", ""), ("rank o 1", "ok"))
        self.assertEqual(all_of(one), all_of(desk()))
        self.said(one, ("drop fi", "ok"))
        self.said(other, ("sets", "fi"))

    def test_numbers_of_nine_figures(self):
        one = desk()
        self.kept(one, NoPlace, 999999999, "put note 999999999 f")
        self.kept(one, NoPlace, 999999999, "cut note 0 999999999")
        self.kept(one, NoCase, "ranks", "rank e 999999999")
        self.kept(one, NoRule, "most", "words fi fi F 100000000")

    def test_names_of_a_set_and_of_a_page_that_are_the_same(self):
        one = desk()
        self.said(one, ("sets", "both fi two"), ("pages", "both note"), ("row both if", "i"), ("tell both", "if i"),
                  ("drop both", "ok"), ("sets", "fi two"), ("pages", "both note"), ("new both", "ok"),
                  ("close both", "ok"), ("sets", "both fi two"), ("pages", "note"))


class Shapers(DeskCase):
    def test_new(self):
        one = Desk()
        self.said(one, ("new b", "ok"), ("show b", ""), ("new abcdefgh", "ok"), ("new a", "ok"),
                  ("sets", "a abcdefgh b"))

    def test_a_name_told_anew(self):
        one = desk()
        self.said(one, ("new fi", "ok"), ("show fi", ""), ("sets", "both fi two"), ("copy two both", "ok"),
                  ("show two", "pass\n/f/>\n"), ("row two fif", "i"))

    def test_pass_and_rule(self):
        one = Desk()
        self.said(one, ("new a", "ok"), ("pass a", "ok"), ("show a", "pass\n"), ("rule a /f.i/>F", "ok"),
                  ("rule a /i/>", "ok"), ("show a", "pass\n/f.i/>F\n/i/>\n"), ("pass a", "ok"),
                  ("rule a |/F/|>G", "ok"),
                  ("show a", "pass\n/f.i/>F\n/i/>\npass\n|/F/|>G\n"), ("row a fi", "G"), ("row a fii", "G"),
                  ("row a fif", "Ff"))

    def test_a_rule_without_a_pass(self):
        one = Desk()
        one.say("new a")
        self.kept(one, NoPlace, 0, "rule a /f/>")
        self.kept(one, NoText, 2, "rule a /f")

    def test_a_fifth_pass_and_a_ninth_rule(self):
        one = told("new a", "pass a", *["rule a /a/>b"] * 8)
        self.kept(one, NoRule, "rules", "rule a /a/>b")
        self.said(one, ("pass a", "ok"), ("rule a /b/>c", "ok"), ("pass a", "ok"), ("pass a", "ok"))
        self.kept(one, NoRule, "passes", "pass a")
        self.said(one, ("row a a", "c"))

    def test_copies_are_changed_apart(self):
        one = told("new a", "pass a", "copy b a", "rule a /x/>y", "rule b /x/>z")
        self.said(one, ("row a x", "y"), ("row b x", "z"), ("copy a a", "ok"), ("row a x", "y"), ("drop a", "ok"),
                  ("row b x", "z"), ("sets", "b"))

    def test_then(self):
        one = told("new a", "pass a", "rule a /x/>y", "new b", "pass b", "rule b /y/>z")
        self.said(one, ("then c a b", "ok"), ("row c xy", "zz"), ("then d b a", "ok"), ("row d xy", "yz"),
                  ("then a a a", "ok"), ("show a", "pass\n/x/>y\n" * 2), ("then a a a", "ok"), ("row c xy", "zz"))
        self.kept(one, TooMuch, 5, "then a a b")
        self.kept(one, TooMuch, 8, "then e a a")
        self.kept(one, NoName, "e", "row e x")

    def test_without(self):
        one = told("new a", "pass a", "rule a /x/>y", "rule a /y/>z", "pass a")
        self.said(one, ("without b a 0 0", "ok"), ("show b", "pass\n/y/>z\npass\n"),
                  ("show a", "pass\n/x/>y\n/y/>z\npass\n"),
                  ("without a a 0 1", "ok"), ("show a", "pass\n/x/>y\npass\n"))
        self.kept(one, NoPlace, 2, "without c a 2 0")
        self.kept(one, NoPlace, 1, "without c a 0 1")
        self.kept(one, NoPlace, 0, "without c a 1 0")
        self.kept(one, NoPlace, 7, "without c a 7 9")

    def test_exchange(self):
        one = told("new a", "pass a", "rule a /x/>y", "pass a", "rule a /y/>z")
        self.said(one, ("exchange b a 0", "ok"), ("row b x", "y"), ("row a x", "z"), ("exchange a a 0", "ok"),
                  ("row a x", "y"))
        self.kept(one, NoPlace, 1, "exchange c a 1")
        one.say("new c")
        self.kept(one, NoPlace, 0, "exchange b c 0")

    def test_drop_and_sets(self):
        one = desk()
        self.said(one, ("drop fi", "ok"), ("sets", "both two"))
        self.kept(one, NoName, "fi", "drop fi")
        self.kept(one, NoName, "fi", "row fi f")
        self.said(one, ("drop two", "ok"), ("drop both", "ok"), ("sets", "-"), ("tell note", "fif Ff"))

    def test_what_is_shown_can_be_read(self):
        chance = random.Random(70)
        for _ in range(100):
            shaper = shaper_by(chance)
            one = told("new a")
            for row in shown_shaper(shaper).splitlines():
                one.say("pass a" if row == "pass" else f"rule a {row}")
            self.assertEqual(read_shaper(one.say("show a")), shaper)
            word = word_by(chance, "abc", 8)
            self.assertEqual(one.say(f"row a {word or '-'}"), shaper.row(word) or "-")


class Words(DeskCase):
    def test_row(self):
        one = desk()
        self.said(one, ("row fi fif", "Ff"), ("row fi -", "-"), ("row both f", "-"), ("row both fif", "i"))
        # The ranks change nothing here.
        self.said(one, ("row fi foi", "foi"), ("row fi oXa", "oXa"))

    def test_glyphs(self):
        one = desk()
        self.said(one, ("glyphs fi fib", "F0,1 b2"), ("glyphs fi -", "-"), ("glyphs both f", "-"),
                  ("glyphs both fi", "i1"),
                  ("pass fi", "ok"), ("rule fi /F.i/>xy", "ok"), ("glyphs fi afiib", "a0 x1,2,3 y1,2,3 b4"))

    def test_ranks(self):
        one = Desk()
        self.said(one, ("order Xoe", "Xoe"), ("rank o 2", "ok"), ("rank e 1", "ok"), ("order Xoe", "Xeo"),
                  ("rank e 3", "ok"), ("order Xeo", "Xoe"), ("rank e 0", "ok"), ("order Xoe", "eXo"), ("base o", "ok"),
                  ("order Xoe", "Xeo"), ("base o", "ok"), ("base Q", "ok"), ("base e", "ok"), ("order Xoe", "Xoe"),
                  ("rank X 9", "ok"), ("rank o 0", "ok"), ("order Xo", "oX"), ("order -", "-"))
        self.kept(one, NoCase, "ranks", "rank e 10")
        self.kept(one, NoCase, "ranks", "rank o 10")
        self.said(one, ("order Xo", "oX"))

    def test_same(self):
        one = desk()
        self.said(one, ("same Xoa Xao", "same"), ("same Xoa XoaX", "unlike 3"), ("same - -", "same"),
                  ("same - X", "unlike 0"),
                  ("same Xa Xo", "unlike 1"), ("base a", "ok"), ("same Xoa Xao", "unlike 1"))

    def test_same_of_long_words(self):
        one = desk()
        row = "same X" + "a" * 4900 + "o" * 4900 + " X" + "o" * 4900 + "a" * 4900
        begin = time.time()
        self.said(one, (row, "same"), (row + "o", "unlike 9801"),
                  ("order X" + "oa" * 9000, "a" * 9000 + "X" + "o" * 9000))
        self.assertLess(time.time() - begin, 5)

    def test_shape(self):
        one = desk()
        # The fore mark a goes ahead of the base that it stands behind.
        self.said(one, ("shape fi fai", "aF"), ("shape fi fia", "fai"), ("base a", "ok"), ("shape fi fai", "fai"),
                  ("rank i 1", "ok"), ("shape fi foi", "Fo"), ("shape both f", "-"), ("shape fi -", "-"))

    def test_stops(self):
        one = desk()
        self.said(one, ("stops fi fif", "0:0 1:250 2:500 3:1000"), ("stops fi -", "0:0"), ("stops both f", "0:0 1:0"),
                  ("stops fi Xoo", "0:0 3:500"), ("base o", "ok"), ("stops fi Xoo", "0:0 1:500 2:1000 3:1500"))

    def test_as_the_functions_tell(self):
        chance = random.Random(71)
        for _ in range(150):
            shaper, ranks = shaper_by(chance), {sign: chance.randrange(10) for sign in "abc" if chance.random() < 0.6}
            one = told("new a", *["pass a" if row == "pass" else f"rule a {row}" for row in
                                  shown_shaper(shaper).splitlines()], *[f"rank {sign} {ranks[sign]}" for sign in ranks])
            word = word_by(chance, "abc", 8)
            hand, asked = Script(Case(ranks), shaper), word or "-"
            self.said(one, (f"shape a {asked}", hand.row(word) or "-"),
                      (f"stops a {asked}", " ".join(f"{at}:{x}" for at, x in stops(hand, word))),
                      (f"glyphs a {asked}", " ".join(sign + ",".join(map(str, places))
                                                     for sign, places in shaper.glyphs(word)) or "-"))


def great_desk():
    """The set great has more than two hundred stands over ALL_H, small has few."""
    rows = ["pass great" if row == "pass" else f"rule great {row}" for row in shown_shaper(STANDS_201).splitlines()]
    return told("new great", *rows, "new small")


class Judged(DeskCase):
    def test_rooms(self):
        self.said(desk(), ("rooms fi fi", "2"), ("rooms fi f", "1"), ("rooms two abc", "1"), ("rooms both if", "1"))

    def test_alike(self):
        one = desk()
        self.said(one, ("alike fi fi fi", "alike"), ("alike fi both fi", "unlike f"), ("alike fi two f", "alike"),
                  ("alike fi two fi", "unlike i"), ("alike fi two if", "unlike i"), ("new a", "ok"),
                  ("alike fi a fi", "unlike fi"),
                  ("alike fi a if", "unlike fi"))

    def test_shows(self):
        one = desk()
        self.said(one, ("shows fi 0 0 fi", "shows fi"), ("shows fi 0 0 f", "idle"), ("shows two 0 0 fi", "shows i"))
        self.kept(one, NoPlace, 1, "shows fi 1 0 fi")
        self.kept(one, NoPlace, 1, "shows fi 0 1 fi")

    def test_idle(self):
        one = desk()
        self.said(one, ("idle fi fi", "-"), ("idle fi f", "0.0"), ("idle fi abc", "0.0"), ("rule fi /f.i/>G", "ok"),
                  ("pass fi", "ok"), ("rule fi /x/>y", "ok"), ("idle fi fi", "0.1 1.0"), ("new a", "ok"),
                  ("idle a fi", "-"))

    def test_change(self):
        one = told("new a", "pass a", "rule a /x/>y", "pass a", "rule a /y/>z")
        self.said(one, ("change a 0 xy", "unlike x"), ("change a 0 y", "alike"))
        self.kept(one, NoPlace, 1, "change a 1 xy")

    def test_seams(self):
        one = desk()
        self.said(one, ("seams fi fib fifb", "0 2 4"), ("seams fi fi f", "0"), ("seams fi fi -", "0"),
                  ("seams fi f ff", "0 1 2"))
        self.kept(one, NoWord, 2, "seams fi fi fix")

    def test_too_many_stands_ahead_of_all(self):
        one = great_desk()
        for row in (f"rooms great {ALL_H}", f"alike great small {ALL_H}", f"alike small great {ALL_H}",
                    f"shows great 0 0 {ALL_H}", f"idle great {ALL_H}", f"seams great {ALL_H} A",
                    f"first great {ALL_H} -", f"many great {ALL_H} a", f"words great {ALL_H} a 61",
                    f"twins great {ALL_H}", f"page fresh great {ALL_H}"):
            self.kept(one, TooMuch, 200, row)
        # A thing that is bad by its kind comes first, and so does a pass that there is not.
        self.refused(NoWord, 1, one.say, f"seams great {ALL_H} a1")
        self.refused(NoPlace, 3, one.say, f"shows great 3 0 {ALL_H}")
        self.refused(NoPlace, 0, one.say, f"change great 0 {ALL_H}")
        self.refused(NoWord, 0, one.say, f"seams small {ALL_H} A")
        one.say("pass great")
        self.refused(TooMuch, 200, one.say, f"change great 0 {ALL_H}")
        self.assertEqual(one.say("rooms great abc"), str(len(machine_of(STANDS_201, "abc"))))

    def test_as_the_functions_tell(self):
        chance = random.Random(72)
        for _ in range(100):
            shaper, other = shaper_by(chance, "ab"), shaper_by(chance, "ab")
            one = Desk()
            for name, each in (("a", shaper), ("b", other)):
                one.say(f"new {name}")
                for row in shown_shaper(each).splitlines():
                    one.say(f"pass {name}" if row == "pass" else f"rule {name} {row}")
            try:
                machine, second = machine_of(shaper, "ab"), machine_of(other, "ab")
                found = idle(shaper, "ab")
                changes = [may_change(shaper, at, "ab") for at in range(len(shaper) - 1)]
            except TooMuch:
                continue
            word = word_by(chance, "ab", 8)
            parted = parting(machine, second)
            self.said(one, ("rooms a ab", str(len(machine))),
                      ("alike a b ab", "alike" if parted is None else f"unlike {parted}"),
                      ("idle a ab", " ".join(f"{at}.{number}" for at, number in found) or "-"),
                      (f"seams a ab {word or '-'}", " ".join(map(str, seams(machine, word)))))
            for at, shown in enumerate(changes):
                self.said(one, (f"change a {at} ab", "alike" if shown is None else f"unlike {shown}"))
            for at, each in enumerate(shaper.passes()):
                for number in range(len(each)):
                    shown = shows(shaper, at, number, "ab")
                    self.said(one, (f"shows a {at} {number} ab", "idle" if shown is None else f"shows {shown}"))
            self.check_back(one, machine, shaper.row(word))

    def check_back(self, one, machine, row):
        back, asked = Back(machine, row), row or "-"
        if len(row) > 1000:
            return
        many, first, found = back.how_many(), back.first(), twins_of(machine)
        self.said(one, (f"first a ab {asked}", "none" if first is None else f"first {first or '-'}"),
                  (f"many a ab {asked}", "endless" if many is None else str(many)),
                  (f"words a ab {asked} 5", " ".join(["words"] + [word or "-" for word in back.words(5)])))
        if found is not None:
            self.said(one, ("twins a ab", found))


def twins_of(machine):
    try:
        found = twins(machine)
    except TooMuch:
        return None
    return "none" if found[0] == "none" else " ".join(["twins"] + [word or "-" for word in found[1:]])


class LedBack(DeskCase):
    def test_first(self):
        one = desk()
        self.said(one, ("first fi fi F", "first fi"), ("first fi if Fi", "first fii"), ("first fi fi fi", "none"),
                  ("first fi fi -", "first -"), ("first fi fi XYZ", "none"), ("first both fi -", "first -"))

    def test_many(self):
        one = desk()
        self.said(one, ("many fi fi F", "1"), ("many fi fi fi", "0"), ("many both fi i", "endless"),
                  ("many both fi -", "endless"),
                  ("many fi fi -", "1"))

    def test_many_of_sixty_figures_and_more(self):
        # Each x is an a, a b or one of eight others: ten letters, and so ten to the length of the row.
        one = told("new a", "pass a", "rule a /abcdefghij/>x")
        self.said(one, ("many a abcdefghij " + "x" * 2, "100"), ("many a abcdefghij " + "x" * 59, str(10 ** 59)),
                  ("many a abcdefghij " + "x" * 60, "more"), ("many a abcdefghij " + "x" * 61, "more"),
                  ("many a abcdefghij " + "x" * 1000, "more"))
        self.assertEqual(len(str(10 ** 59)), 60)
        self.said(one, ("many a abcdefghi " + "x" * 62, str(9 ** 62)), ("many a abcdefghi " + "x" * 63, "more"))
        begin = time.time()
        self.said(one, ("many a abcdefghij " + "x" * 19900, "more"))
        self.assertLess(time.time() - begin, 20)

    def test_words(self):
        one = desk()
        self.said(one, ("words fi fi F 5", "words fi"), ("words fi fi fi 5", "words"),
                  ("words both fi i 4", "words i fi if ffi"),
                  ("words both fi - 3", "words - f ff"), ("words both fi i 0", "words"),
                  ("words both if i 3", "words i if fi"))
        self.assertEqual(len(one.say("words both fi - 60").split()), 61)
        self.kept(one, NoRule, "most", "words both fi - 61")

    def test_twins(self):
        one = desk()
        self.said(one, ("twins fi fi", "none"))
        answer = one.say("twins both fi").split()
        self.assertEqual((answer[0], len(answer)), ("twins", 3))
        words = ["" if word == "-" else word for word in answer[1:]]
        self.assertEqual(one.say("row both " + answer[1]), one.say("row both " + answer[2]))
        self.assertNotEqual(words[0], words[1])
        self.said(one, ("new none", "ok"), ("twins none f", "none"))


class Pages(DeskCase):
    def test_page(self):
        one = desk()
        self.said(one, ("page a fi fio", "ok"), ("tell a", "- -"), ("places a", "0"), ("pages", "a both note"),
                  ("page note fi fi", "ok"), ("tell note", "- -"))
        self.kept(one, NoWord, 0, "put note 0 o")

    def test_put_and_cut(self):
        one = desk()
        self.said(one, ("tell note", "fif Ff"), ("places note", "0 2"), ("put note 1 i", "0 3"),
                  ("tell note", "fiif Fif"),
                  ("cut note 0 1", "0 1"), ("tell note", "iif iif"), ("cut note 3 0", "2 3"), ("put note 0 -", "0 0"),
                  ("cut note 0 3", "0 0"), ("tell note", "- -"), ("put both 2 f", "2 3"), ("tell both", "iff i"))
        self.kept(one, NoPlace, 1, "put note 1 f")
        self.kept(one, NoPlace, 1, "put note 1 x")
        self.kept(one, NoWord, 1, "put note 0 fx")
        self.kept(one, TooMuch, 60, "put note 0 " + "f" * 61)
        self.kept(one, NoPlace, 4, "cut both 4 9")
        self.kept(one, NoPlace, 9, "cut both 0 9")

    def test_undo(self):
        one = desk()
        self.said(one, ("cut note 0 1", "0 1"), ("undo note", "0 2"), ("tell note", "fif Ff"), ("undo note", "0 0"),
                  ("tell note", "- -"))
        self.kept(one, NoRule, "undo", "undo note")

    def test_join(self):
        one = desk()
        self.said(one, ("join note both", "2 5"), ("tell note", "fifif FFf"), ("tell both", "if i"),
                  ("join both both", "2 4"),
                  ("tell both", "ifif ii"), ("undo both", "2 2"), ("tell both", "if i"), ("put note 0 o", "0 1"))
        self.kept(one, NoWord, 0, "join both note")
        self.said(one, ("new a", "ok"), ("page a a f", "ok"), ("put a 0 " + "f" * 60, "0 60"))
        self.kept(one, TooMuch, 60, "join both a")
        self.kept(one, TooMuch, 60, "join a a")

    def test_part(self):
        one = desk()
        self.said(one, ("part a note 1", "0 1"), ("tell note", "f f"), ("tell a", "if if"), ("pages", "a both note"),
                  ("put a 0 f", "0 2"), ("tell note", "f f"), ("tell a", "fif Ff"), ("undo note", "0 3"),
                  ("tell note", "fif Ff"))
        self.said(one, ("undo a", "0 1"))
        self.kept(one, NoRule, "undo", "undo a")
        self.kept(one, NoPlace, 4, "part b note 4")

    def test_part_where_new_is_the_page(self):
        one = desk()
        self.said(one, ("part note note 2", "2 0"), ("pages", "both note"), ("tell note", "f f"))
        self.kept(one, NoRule, "undo", "undo note")
        self.kept(one, NoPlace, 2, "part note note 2")
        self.said(one, ("part both note 0", "0 0"), ("tell both", "f f"), ("tell note", "- -"))

    def test_twin(self):
        one = desk()
        self.said(one, ("twin a note", "ok"), ("tell a", "fif Ff"), ("undo a", "0 0"), ("tell a", "- -"),
                  ("tell note", "fif Ff"),
                  ("undo note", "0 0"), ("twin both note", "ok"), ("tell both", "- -"), ("put both 0 o", "0 1"),
                  ("twin both both", "ok"), ("undo both", "0 0"), ("tell note", "- -"))

    def test_close_and_pages(self):
        one = desk()
        self.said(one, ("close note", "ok"), ("pages", "both"), ("close both", "ok"), ("pages", "-"),
                  ("sets", "both fi two"))
        self.kept(one, NoName, "note", "close note")
        self.kept(one, NoName, "note", "tell note")

    def test_what_is_done_later_changes_no_page(self):
        one = desk()
        self.said(one, ("put note 3 oi", "2 5"), ("tell note", "fifoi Ffoi"), ("rule fi /o/>", "ok"),
                  ("rank o 0", "ok"),
                  ("tell note", "fifoi Ffoi"), ("drop fi", "ok"), ("base o", "ok"), ("rank i 1", "ok"),
                  ("put note 5 fi", "5 7"),
                  ("tell note", "fifoifi FfoiF"), ("twin a note", "ok"), ("tell a", "fifoifi FfoiF"), ("undo a", "5 5"),
                  ("part b note 3", "2 1"), ("tell b", "oifi oiF"))

    def test_as_shape_and_as_page_tell(self):
        chance = random.Random(74)
        for _ in range(60):
            shaper, ranks = shaper_by(chance), {sign: chance.randrange(4) for sign in "abc" if chance.random() < 0.5}
            one = told("new a", *["pass a" if row == "pass" else f"rule a {row}" for row in
                                  shown_shaper(shaper).splitlines()], *[f"rank {sign} {ranks[sign]}" for sign in ranks])
            try:
                page = Page(Script(Case(ranks), shaper), "abc")
            except TooMuch:
                self.refused(TooMuch, 200, one.say, "page p a abc")
                continue
            one.say("page p a abc")
            for _ in range(15):
                at = chance.randrange(len(page) + 1)
                word, many = word_by(chance, "abc", 4), chance.randrange(len(page) - at + 1)
                if len(page) < 20 and chance.random() < 0.7:
                    self.said(one, (f"put p {at} {word or '-'}", "{} {}".format(*page.put(at, word))))
                elif chance.random() < 0.5:
                    self.said(one, (f"cut p {at} {many}", "{} {}".format(*page.cut(at, many))))
                else:
                    other, begin, end = page.parted_at(at)
                    self.said(one, (f"part q p {at}", f"{begin} {end}"),
                              ("tell q", f"{other.text() or '-'} {other.row() or '-'}"))
                row = one.say(f"shape a {page.text() or '-'}")
                self.said(one, ("tell p", f"{page.text() or '-'} {row}"),
                          ("places p", " ".join(map(str, page.places()))))


if __name__ == "__main__":
    unittest.main()
