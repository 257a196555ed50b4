"""[58] to [62]: pages."""

import random
import unittest

from markseam.case import Case
from markseam.errors import NoPlace, NoRule, NoWord, TooMuch
from markseam.least import machine_of
from markseam.order import ordered
from markseam.page import Page
from markseam.passes import Pass
from markseam.rules import Rule
from markseam.script import Script
from markseam.seams import no_seam
from markseam.shaper import Shaper
from tests.helpers import (
    ALL_G, ALL_H, STANDS_200, STANDS_201, SeamCase, no_letters, no_texts, no_wholes, script_by, word_by, words)

# f is a fore mark, e a hung mark; a and b join, each d looks at what stands ahead of it.
CASE = Case({"f": 0, "e": 1})
SHAPER = Shaper([Pass([Rule(["a", "b"], "x"), Rule(["d"], "D", ["cD"])])])
HAND = Script(CASE, SHAPER)
LETTERS = "abcdef"
PLAIN = Script(Case(), Shaper())


KNOWN = {}


def is_seam(hand, letters, text):
    """Whether a text's end is a seam; it is asked but once, with a machine made but once."""
    if (id(hand), letters) not in KNOWN:
        # The script is kept as well, as another one could have its id otherwise.
        KNOWN[id(hand), letters] = (hand, machine_of(hand.shaper, letters), {})
    _, machine, known = KNOWN[id(hand), letters]
    if text not in known:
        known[text] = no_seam(machine, ordered(hand.case, text)[0], len(text)) is None
    return known[text]


def places_of(hand, letters, text):
    """The places, each asked for by itself."""
    return [0] + [k for k in range(1, len(text) + 1) if (k == len(text) or hand.case.is_base(text[k]))
                  and is_seam(hand, letters, text[:k])]


def stretch_of(hand, letters, old, new, at, many):
    """The stretch of a deed that put so many letters in, or none, as 60 tells it."""
    ahead, behind = places_of(hand, letters, old), places_of(hand, letters, new)
    begin = max(k for k in range(at + 1) if k in ahead and k in behind)
    for end in range(at + many, len(new) + 1):
        if end in behind and any(len(old) - k == len(new) - end for k in ahead):
            return (begin, end)
    return (begin, len(new))


class PageCase(SeamCase):
    def check_row(self, page, hand):
        self.assertEqual(page.row(), hand.row(page.text()))
        self.assertEqual(len(page), len(page.text()))
        self.assertEqual("".join(row for _, _, row in page.pieces()), page.row())

    def check_stretch(self, hand, letters, old, new, at, many, told):
        self.assertEqual(told, stretch_of(hand, letters, old, new, at, many))
        self.assertIs(type(told), tuple)
        begin, end = told
        rows = [hand.row(text) for text in (new[:begin], new[begin:end], new[end:])]
        self.assertEqual(hand.row(new), "".join(rows))
        self.assertTrue(hand.row(old).startswith(rows[0]))
        self.assertTrue(hand.row(old).endswith(rows[2]))
        self.assertEqual((old[:begin], old[len(old) - (len(new) - end):]), (new[:begin], new[end:]))


class Made(PageCase):
    def test_text_and_row(self):
        page = Page(HAND, LETTERS, "abcd")
        self.assertEqual((page.text(), page.row(), len(page), str(page)), ("abcd", "xcD", 4, "abcd xcD"))
        page = Page(HAND, LETTERS)
        self.assertEqual((page.text(), page.row(), len(page), str(page)), ("", "", 0, " "))
        page = Page(HAND, LETTERS, "cef")
        self.assertEqual((page.text(), page.row(), str(page)), ("cef", "fce", "cef fce"))

    def test_by_names(self):
        page = Page(text="ab", letters="ba", hand=HAND)
        self.assertEqual(str(page), "ab x")
        self.assertEqual(page.put(word="b", at=1), (0, 3))
        self.assertEqual(page.cut(many=1, at=1), (0, 2))
        other, begin, end = page.parted_at(at=1)
        self.assertEqual((str(page), str(other), begin, end), ("a a", "b b", 0, 1))
        self.assertEqual(page.took_in(other=other), (0, 2))

    def test_sixty_letters(self):
        self.assertEqual(len(Page(HAND, LETTERS, "a" * 60)), 60)
        self.refused(TooMuch, 60, Page, HAND, LETTERS, "a" * 61)
        self.refused(TooMuch, 60, Page, HAND, LETTERS, "a" * 1000)

    def test_refused_by_letters_first(self):
        for thing in no_letters():
            self.refused(NoRule, "letters", Page, HAND, thing, "1" * 61)
            self.refused(NoRule, "letters", Page, HAND, thing)
        self.refused(NoRule, "letters", Page, HAND, None, "ab")

    def test_refused_by_text_then(self):
        for thing in no_texts():
            self.refused(NoWord, -1, Page, HAND, LETTERS, thing)
        self.refused(NoWord, 1, Page, HAND, LETTERS, "ag")
        self.refused(NoWord, 60, Page, HAND, LETTERS, "a" * 60 + "g")
        self.refused(NoWord, 70, Page, HAND, LETTERS, "a" * 70 + "1")
        self.refused(NoWord, 0, Page, Script(CASE, STANDS_201), ALL_H, "A")

    def test_refused_by_stands_last(self):
        hand = Script(CASE, STANDS_201)
        self.refused(TooMuch, 200, Page, hand, ALL_H)
        self.refused(TooMuch, 200, Page, hand, ALL_H, "a" * 60)
        self.refused(TooMuch, 60, Page, hand, ALL_H, "a" * 61)
        self.assertEqual(len(Page(Script(CASE, STANDS_200), ALL_G, "a")), 1)

    def test_equal(self):
        page = Page(HAND, LETTERS, "cd")
        self.assertEqual(page, Page(HAND, "dc", "cd"))
        self.assertFalse(page == Page(PLAIN, LETTERS, "cd"))
        self.assertFalse(page == Page(HAND, LETTERS, "dc"))
        # Two texts may have one row, and another script the same one.
        self.assertEqual(Page(HAND, LETTERS, "aa"), Page(PLAIN, "a", "aa"))
        lost = Script(Case(), Shaper([Pass([Rule(["a"], "")])]))
        self.assertFalse(Page(lost, "a", "a") == Page(lost, "a", "aa"))
        self.assertTrue(page != Page(HAND, LETTERS))
        for thing in [None, "cd", "cd cD", ("cd", "cD"), 2, True, HAND, object()]:
            self.assertFalse(page == thing)
            self.assertFalse(thing == page)

    def test_equal_whatever_was_done(self):
        page = Page(HAND, LETTERS, "cd")
        page.put(0, "a")
        page.cut(0, 1)
        self.assertEqual(page, Page(HAND, LETTERS, "cd"))


class Places(PageCase):
    def test_some(self):
        rows = [("", [0]), ("a", [0]), ("b", [0, 1]), ("ab", [0, 2]), ("aab", [0, 3]), ("abab", [0, 2, 4]),
                ("cdd", [0]), ("cddb", [0, 4]), ("ba", [0, 1]), ("bab", [0, 1, 3])]
        for text, places in rows:
            self.assertEqual(Page(HAND, LETTERS, text).places(), places, text)

    def test_those_that_a_mark_follows_are_none(self):
        self.assertEqual(Page(HAND, LETTERS, "beeb").places(), [0, 3, 4])
        self.assertEqual(Page(HAND, LETTERS, "e").places(), [0, 1])
        self.assertEqual(Page(HAND, LETTERS, "eb").places(), [0, 1, 2])
        self.assertEqual(Page(HAND, LETTERS, "fe").places(), [0, 2])

    def test_marks_are_put_in_order_first(self):
        # Behind b e, and not behind the f that was typed last.
        self.assertEqual(Page(HAND, LETTERS, "cfb").places(), [0, 3])
        self.assertEqual(Page(HAND, LETTERS, "cef").places(), [0, 3])
        self.assertEqual(Page(HAND, LETTERS, "aeb").places(), [0, 2, 3])
        self.assertEqual(Page(HAND, LETTERS, "afb").places(), [0, 3])

    def test_by_the_page_s_letters(self):
        # Without a b no a can join.
        self.assertEqual(Page(HAND, "ac", "aac").places(), [0, 1, 2, 3])
        self.assertEqual(Page(HAND, "abc", "aac").places(), [0, 3])

    def test_pieces(self):
        rows = [("", []), ("a", [(0, 1, "a")]), ("b", [(0, 1, "b")]), ("bab", [(0, 1, "b"), (1, 3, "x")]),
                ("cef", [(0, 3, "fce")]), ("bef", [(0, 3, "fbe")]), ("bafab", [(0, 1, "b"), (1, 5, "fax")]),
                ("cddb", [(0, 4, "cDDb")]), ("ba", [(0, 1, "b"), (1, 2, "a")])]
        for text, told in rows:
            self.assertEqual(Page(HAND, LETTERS, text).pieces(), told, text)

    def test_all_short_texts(self):
        for text in words("acdef", 4):
            page = Page(HAND, LETTERS, text)
            self.assertEqual(page.places(), places_of(HAND, LETTERS, text))
            self.check_row(page, HAND)

    def test_by_chance(self):
        chance = random.Random(58)
        for _ in range(100):
            hand = script_within(chance)
            page = Page(hand, "abc", word_by(chance, "abc", 10))
            self.assertEqual(page.places(), places_of(hand, "abc", page.text()))
            cuts = page.places() + [len(page)]
            self.assertEqual(page.pieces(), [(begin, end, hand.row(page.text()[begin:end]))
                                             for begin, end in zip(cuts, cuts[1:]) if begin != end])
            self.check_row(page, hand)

    def test_the_lists_are_new(self):
        page = Page(HAND, LETTERS, "bab")
        page.places().clear()
        page.pieces().clear()
        self.assertEqual((page.places(), len(page.pieces())), ([0, 1, 3], 2))


class Changed(PageCase):
    def test_put(self):
        rows = [
            ("", 0, "a", (0, 1), "a"), ("", 0, "b", (0, 1), "b"), ("", 0, "", (0, 0), ""),
            ("bbb", 1, "b", (1, 2), "bbbb"), ("bbb", 0, "b", (0, 1), "bbbb"), ("bbb", 3, "b", (3, 4), "bbbb"),
            ("bab", 2, "c", (1, 4), "bacb"), ("bab", 2, "b", (1, 4), "bxb"), ("bab", 1, "a", (1, 4), "bax"),
            ("cb", 1, "dd", (0, 4), "cDDb"), ("bcb", 2, "d", (1, 4), "bcDb"), ("bbb", 1, "", (1, 1), "bbb"),
            ("bab", 2, "", (1, 3), "bx"), ("bb", 1, "e", (0, 2), "beb"), ("bb", 1, "f", (0, 2), "fbb"),
            ("bb", 0, "e", (0, 1), "ebb"), ("eb", 0, "b", (0, 2), "beb"), ("bb", 2, "a", (2, 3), "bba"),
            ("aa", 2, "b", (0, 3), "ax"), ("ba", 2, "a", (1, 3), "baa"),
        ]
        for text, at, word, told, row in rows:
            page = Page(HAND, LETTERS, text)
            self.assertEqual(page.put(at, word), told, (text, at, word))
            self.assertEqual((page.text(), page.row()), (text[:at] + word + text[at:], row))
            self.check_stretch(HAND, LETTERS, text, page.text(), at, len(word), told)

    def test_cut(self):
        rows = [
            ("", 0, 0, (0, 0), ""), ("b", 0, 1, (0, 0), ""), ("bbb", 0, 1, (0, 0), "bb"), ("bbb", 1, 1, (1, 1), "bb"),
            ("bbb", 2, 1, (2, 2), "bb"), ("bbb", 0, 3, (0, 0), ""), ("bbb", 1, 0, (1, 1), "bbb"),
            ("bacb", 2, 1, (1, 3), "bx"), ("cddb", 1, 2, (0, 2), "cb"), ("babb", 1, 1, (1, 2), "bbb"),
            ("beb", 1, 1, (0, 1), "bb"), ("beb", 0, 1, (0, 1), "eb"), ("abb", 1, 1, (0, 2), "x"),
            ("bcd", 2, 1, (1, 2), "bc"), ("bab", 2, 1, (1, 2), "ba"), ("bab", 2, 0, (1, 3), "bx"),
        ]
        for text, at, many, told, row in rows:
            page = Page(HAND, LETTERS, text)
            self.assertEqual(page.cut(at, many), told, (text, at, many))
            self.assertEqual((page.text(), page.row()), (text[:at] + text[at + many:], row))
            self.check_stretch(HAND, LETTERS, text, page.text(), at, 0, told)

    def test_all_puts_and_cuts_of_short_texts(self):
        for text in words("bade", 3):
            for at in range(len(text) + 1):
                for word in ("", "a", "b", "e", "da"):
                    page = Page(HAND, "abde", text)
                    self.check_stretch(HAND, "abde", text, text[:at] + word + text[at:], at, len(word),
                                       page.put(at, word))
                for many in range(len(text) - at + 1):
                    page = Page(HAND, "abde", text)
                    self.check_stretch(HAND, "abde", text, text[:at] + text[at + many:], at, 0, page.cut(at, many))

    def test_put_is_refused(self):
        page = Page(HAND, LETTERS, "ab" * 29)
        for thing in [-1, 59, 10 ** 30] + no_wholes():
            self.refused(NoPlace, thing, page.put, thing, "a")
            self.refused(NoPlace, thing, page.put, thing, None)
        for thing in no_texts():
            self.refused(NoWord, -1, page.put, 0, thing)
        self.refused(NoWord, 3, page.put, 58, "abcg")
        self.refused(NoWord, 0, page.put, 0, "1")
        self.refused(TooMuch, 60, page.put, 0, "abc")
        self.assertEqual((page.text(), page.row()), ("ab" * 29, "x" * 29))
        self.refused(NoRule, "undo", page.undo)
        page.put(58, "aa")
        self.assertEqual(len(page), 60)
        self.refused(TooMuch, 60, page.put, 60, "a")
        self.assertEqual(page.put(60, ""), (58, 60))

    def test_cut_is_refused(self):
        page = Page(HAND, LETTERS, "abc")
        for thing in [-1, 4, 10 ** 30] + no_wholes():
            self.refused(NoPlace, thing, page.cut, thing, None)
            self.refused(NoPlace, thing, page.cut, thing, 0)
        for thing in [-1, 3, 10 ** 30] + no_wholes():
            self.refused(NoPlace, thing, page.cut, 1, thing)
        self.refused(NoPlace, 1, page.cut, 3, 1)
        self.assertEqual(page.text(), "abc")
        self.refused(NoRule, "undo", page.undo)


class Parted(PageCase):
    def test_some(self):
        # The text, the place, the new page's text, and the begin and the end told.
        rows = [("", 0, 0, 0), ("bbb", 0, 0, 0), ("bbb", 1, 1, 0), ("bbb", 3, 3, 0), ("bab", 2, 1, 1), ("bab", 1, 1, 0),
                ("aab", 1, 0, 2), ("cddb", 1, 0, 3), ("cddbb", 2, 0, 2), ("cdd", 1, 0, 2), ("beb", 1, 0, 1),
                ("bfb", 1, 0, 1), ("ba", 2, 1, 0), ("baa", 2, 1, 1), ("a", 1, 0, 0)]
        for text, at, begin, end in rows:
            page = Page(HAND, LETTERS, text)
            told = page.parted_at(at)
            other = told[0]
            self.assertEqual(told[1:], (begin, end), (text, at))
            self.assertEqual((page.text(), other.text()), (text[:at], text[at:]))
            self.check_row(page, HAND)
            self.check_row(other, HAND)

    def test_by_chance(self):
        chance = random.Random(61)
        for _ in range(150):
            hand = script_within(chance)
            text = word_by(chance, "abc", 9)
            for at in range(len(text) + 1):
                page = Page(hand, "abc", text)
                other, begin, end = page.parted_at(at)
                self.assertEqual(begin, stretch_of(hand, "abc", text, text[:at], at, 0)[0])
                old, fresh = places_of(hand, "abc", text), places_of(hand, "abc", text[at:])
                ends = [k for k in fresh if at + k in old]
                self.assertEqual(end, ends[0] if ends else len(text) - at)
                self.assertEqual((page.text(), other.text()), (text[:at], text[at:]))
                self.assertTrue(hand.row(text).endswith(hand.row(text[at + end:])))
                self.assertEqual(other.row(), hand.row(other.text()[:end]) + hand.row(other.text()[end:]))

    def test_both_go_on_by_themselves(self):
        page = Page(HAND, LETTERS, "abcd")
        other, _, _ = page.parted_at(2)
        self.assertIsInstance(other, Page)
        other.put(0, "a")
        self.assertEqual((str(page), str(other)), ("ab x", "acd acD"))
        page.put(0, "c")
        self.assertEqual((str(page), str(other)), ("cab cx", "acd acD"))
        # The new page has the same letters.
        self.refused(NoWord, 0, other.put, 0, "g")
        other.put(0, LETTERS)

    def test_refused(self):
        page = Page(HAND, LETTERS, "abc")
        for thing in [-1, 4, 10 ** 30] + no_wholes():
            self.refused(NoPlace, thing, page.parted_at, thing)
        self.assertEqual(page.text(), "abc")
        self.refused(NoRule, "undo", page.undo)


class TookIn(PageCase):
    def test_some(self):
        page, other = Page(HAND, LETTERS, "ba"), Page(HAND, LETTERS, "bc")
        self.assertEqual(page.took_in(other), (1, 4))
        self.assertEqual((str(page), str(other)), ("babc bxc", "bc bc"))
        other.put(0, "a")
        self.assertEqual(page.text(), "babc")

    def test_itself(self):
        page = Page(HAND, LETTERS, "ba")
        self.assertEqual(page.took_in(page), (1, 4))
        self.assertEqual(str(page), "baba bxa")
        self.assertEqual(page.took_in(page), (3, 8))
        self.assertEqual(str(page), "babababa bxxxa")

    def test_a_page_without_text(self):
        page = Page(HAND, LETTERS, "b")
        self.assertEqual(page.took_in(Page(HAND, LETTERS)), (1, 1))
        page = Page(HAND, LETTERS)
        self.assertEqual(page.took_in(Page(HAND, LETTERS, "bab")), (0, 3))
        self.assertEqual(page.row(), "bx")

    def test_a_page_of_another_script(self):
        page = Page(HAND, LETTERS, "c")
        self.assertEqual(page.took_in(Page(PLAIN, "d", "dd")), (0, 3))
        self.assertEqual(str(page), "cdd cDD")

    def test_refused(self):
        page = Page(HAND, "ab", "a")
        self.refused(NoWord, 2, page.took_in, Page(HAND, LETTERS, "bac" * 20))
        page = Page(HAND, LETTERS, "b" * 31)
        self.refused(TooMuch, 60, page.took_in, page)
        self.refused(TooMuch, 60, page.took_in, Page(HAND, LETTERS, "b" * 30))
        self.assertEqual(len(page), 31)
        self.refused(NoRule, "undo", page.undo)
        page.took_in(Page(HAND, LETTERS, "b" * 29))
        self.assertEqual(len(page), 60)


class Undone(PageCase):
    def test_each_kind(self):
        page = Page(HAND, LETTERS, "bab")
        page.put(2, "c")
        page.cut(0, 1)
        other, _, _ = page.parted_at(1)
        page.took_in(other)
        page.took_in(page)
        self.assertEqual((page.text(), other.text()), ("acbacb", "cb"))
        for text, at, many in (("acb", 3, 0), ("a", 1, 0), ("acb", 1, 2), ("bacb", 0, 1), ("bab", 2, 0)):
            old = page.text()
            self.check_stretch(HAND, LETTERS, old, text, at, many, page.undo())
            self.assertEqual(page.text(), text)
            self.check_row(page, HAND)
        self.assertEqual(other.text(), "cb")
        self.refused(NoRule, "undo", page.undo)
        self.assertEqual(page.text(), "bab")

    def test_stretches(self):
        page = Page(HAND, LETTERS, "bbb")
        page.put(1, "b")
        self.assertEqual(page.undo(), (1, 1))
        page.cut(1, 1)
        self.assertEqual(page.undo(), (1, 2))
        page.parted_at(1)
        self.assertEqual(page.undo(), (1, 3))
        page.took_in(page)
        self.assertEqual(page.undo(), (3, 3))

    def test_deeds_that_changed_nothing(self):
        page = Page(HAND, LETTERS, "bab")
        page.put(2, "")
        page.cut(3, 0)
        page.parted_at(3)
        page.took_in(Page(HAND, LETTERS))
        self.assertEqual([page.undo() for _ in range(4)], [(3, 3), (3, 3), (3, 3), (1, 3)])
        self.refused(NoRule, "undo", page.undo)

    def test_what_was_taken_back_is_no_deed(self):
        page = Page(HAND, LETTERS)
        page.put(0, "a")
        page.put(1, "b")
        page.undo()
        page.put(1, "c")
        page.undo()
        self.assertEqual(page.text(), "a")
        page.undo()
        self.assertEqual(page.text(), "")
        self.refused(NoRule, "undo", page.undo)

    def test_new_pages_have_none(self):
        page = Page(HAND, LETTERS, "ab")
        self.refused(NoRule, "undo", page.undo)
        page.put(0, "c")
        other, _, _ = page.parted_at(1)
        self.refused(NoRule, "undo", other.undo)
        page.undo()
        self.assertEqual((page.text(), other.text()), ("cab", "ab"))

    def test_what_was_refused_is_no_deed(self):
        page = Page(HAND, LETTERS, "ab")
        page.put(0, "c")
        self.refused(NoWord, 0, page.put, 0, "g")
        self.refused(NoPlace, 4, page.cut, 0, 4)
        page.undo()
        self.assertEqual(page.text(), "ab")
        self.refused(NoRule, "undo", page.undo)


class Twins(PageCase):
    def test_both_take_the_same_back(self):
        page = Page(HAND, LETTERS, "ab")
        page.put(0, "c")
        page.cut(1, 1)
        twin = page.twin()
        self.assertEqual(twin, page)
        self.assertEqual(twin.undo(), page.undo())
        self.assertEqual((twin.text(), page.text()), ("cab", "cab"))
        twin.undo()
        self.assertEqual((twin.text(), page.text()), ("ab", "cab"))
        self.refused(NoRule, "undo", twin.undo)
        page.put(3, "d")
        page.undo()
        page.undo()
        self.assertEqual(page.text(), "ab")
        self.refused(NoRule, "undo", page.undo)

    def test_what_is_done_to_the_one_is_not_done_to_the_other(self):
        page = Page(HAND, LETTERS, "ab")
        twin = page.twin()
        twin.put(0, "c")
        self.assertEqual((twin.text(), page.text()), ("cab", "ab"))
        self.refused(NoRule, "undo", page.undo)
        page.cut(0, 2)
        self.assertEqual((twin.text(), page.text()), ("cab", ""))
        self.refused(NoWord, 0, twin.put, 0, "g")
        twin.took_in(twin)
        self.assertEqual(twin.row(), "cxcx")


class Histories(PageCase):
    def test_by_chance(self):
        chance = random.Random(62)
        for _ in range(60):
            hand = script_within(chance)
            self.history(chance, hand)

    def history(self, chance, hand):
        """Deeds on two pages, each with the texts that it had."""
        pages = [(Page(hand, "abc"), [""]), (Page(hand, "abc", "cab"), ["cab"])]
        for _ in range(25):
            page, texts = pages[chance.randrange(2)]
            old = page.text()
            at = chance.randrange(len(old) + 1)
            deed = chance.choice(["put", "put", "cut", "undo", "part", "join", "twin"])
            if deed == "put":
                word = word_by(chance, "abc", 3)
                told = page.put(at, word)
                self.check_stretch(hand, "abc", old, old[:at] + word + old[at:], at, len(word), told)
                texts.append(old[:at] + word + old[at:])
            elif deed == "cut":
                many = chance.randrange(len(old) - at + 1)
                self.check_stretch(hand, "abc", old, old[:at] + old[at + many:], at, 0, page.cut(at, many))
                texts.append(old[:at] + old[at + many:])
            elif deed == "undo" and len(texts) > 1:
                page.undo()
                texts.pop()
            elif deed == "part":
                other, _, _ = page.parted_at(at)
                self.assertEqual(other.text(), old[at:])
                texts.append(old[:at])
            elif deed == "join" and len(old) < 12:
                other = pages[chance.randrange(2)][0]
                texts.append(old + other.text())
                told = page.took_in(other)
                self.check_stretch(hand, "abc", old, texts[-1], len(old), len(texts[-1]) - len(old), told)
            elif deed == "twin":
                pages[0] = (page.twin(), list(texts))
                pages[1] = (page, texts)
            for one, told in pages:
                self.assertEqual(one.text(), told[-1])
                self.check_row(one, hand)


def script_within(chance):
    """A small script whose shaper has not too many stands over abc."""
    while True:
        hand = script_by(chance)
        try:
            Page(hand, "abc")
            return hand
        except TooMuch:
            pass


if __name__ == "__main__":
    unittest.main()
