"""[4] to [7]: signs, letters, words and their order."""

import itertools
import unittest

from markseam.errors import NoRule, NoWord, TooMuch
from markseam.signs import (before, common_start, is_sign, last_signs, number_of, want_letters, want_word,
                            word_of)
from tests.helpers import SIGNS, SeamCase, no_texts, no_wholes, things

OTHER_SIGNS = [chr(k) for k in range(32, 127) if chr(k) not in SIGNS] + ["\n", "\t", "\0"]
SIXTEEN = "abcdefghijklmnop"
BAD_LETTERS = ["", "abcdefghijklmnopq", "aa", "aba", "a1", "1", "a ", " a", "a-b", "a\n", "|", SIGNS, "ab" * 500]


class IsSign(SeamCase):
    def test_the_fifty_two(self):
        self.assertEqual(len(SIGNS), 52)
        for sign in SIGNS:
            self.assertIs(is_sign(sign), True)

    def test_other_signs_are_none(self):
        for sign in OTHER_SIGNS:
            self.assertIs(is_sign(sign), False)

    def test_texts_of_none_and_of_several_are_none(self):
        for text in ("", "ab", "AB", "abc", "aa", "yz", " a", "a ", SIGNS):
            self.assertIs(is_sign(text), False)

    def test_things_of_other_kinds_are_none(self):
        for thing in no_texts():
            self.assertIs(is_sign(thing), False)

    def test_by_name(self):
        self.assertIs(is_sign(thing="a"), True)


class WantLetters(SeamCase):
    def test_good_letters(self):
        for letters in ("a", "ab", "ba", "aA", SIXTEEN, SIXTEEN[::-1], "zZyYxXwWvVuUtTsS"):
            self.assertIsNone(want_letters(letters))
            self.assertIsNone(want_letters(letters=letters))

    def test_bad_letters(self):
        for letters in BAD_LETTERS:
            self.refused(NoRule, "letters", want_letters, letters)

    def test_each_other_sign_is_none(self):
        for sign in OTHER_SIGNS:
            self.refused(NoRule, "letters", want_letters, sign)
            self.refused(NoRule, "letters", want_letters, "ab" + sign)

    def test_no_texts(self):
        for thing in no_texts():
            self.refused(NoRule, "letters", want_letters, thing)


class WantWord(SeamCase):
    def test_good_words(self):
        for word in ("", "a", "Z", "aa", "abBA", SIGNS, "aB" * 500):
            self.assertIsNone(want_word(word))

    def test_good_words_of_letters(self):
        for word, letters in (("", "a"), ("aaa", "a"), ("ab" * 500, "ba"), (SIXTEEN, SIXTEEN), ("aA", "Aa")):
            self.assertIsNone(want_word(word, letters))
            self.assertIsNone(want_word(letters=letters, word=word))

    def test_letters_may_be_none(self):
        self.assertIsNone(want_word("zZ", None))
        self.assertIsNone(want_word(word="zZ", letters=None))

    def test_first_bad_place_is_told(self):
        for sign in OTHER_SIGNS:
            self.refused(NoWord, 0, want_word, sign)
            self.refused(NoWord, 0, want_word, sign + "ab")
            self.refused(NoWord, 1, want_word, "a" + sign + "b" + sign)
            self.refused(NoWord, 2, want_word, "ab" + sign)
            self.refused(NoWord, 999, want_word, "a" * 999 + sign)

    def test_first_place_that_is_none_of_the_letters(self):
        self.refused(NoWord, 0, want_word, "c", "ab")
        self.refused(NoWord, 2, want_word, "abcab", "ab")
        self.refused(NoWord, 1, want_word, "aA", "a")
        self.refused(NoWord, 3, want_word, "aba1c", "ab")

    def test_no_text(self):
        for thing in no_texts():
            self.refused(NoWord, -1, want_word, thing)
            self.refused(NoWord, -1, want_word, thing, "ab")

    def test_bad_letters_come_ahead_of_a_bad_word(self):
        for letters in BAD_LETTERS + [thing for thing in no_texts() if thing is not None]:
            for word in ("", "a", "1", None, 5):
                self.refused(NoRule, "letters", want_word, word, letters)


class CommonStart(SeamCase):
    def test_some(self):
        rows = [("", "", ""), ("", "a", ""), ("a", "b", ""), ("ab", "ab", "ab"), ("ab", "abc", "ab"),
                ("abx", "aby", "ab"), ("xab", "yab", ""), ("aAb", "aab", "a"), ("a b\nc", "a b\nd", "a b\n")]
        for one, other, start in rows:
            self.assertEqual(common_start(one, other), start)
            self.assertEqual(common_start(other, one), start)
            self.assertEqual(common_start(other=other, one=one), start)

    def test_of_one_and_itself(self):
        for text in ("", "a", "abcabc", "a" * 1000):
            self.assertEqual(common_start(text, text), text)

    def test_long(self):
        self.assertEqual(common_start("a" * 999 + "b", "a" * 999 + "c"), "a" * 999)


class Before(SeamCase):
    def test_shorter_words_come_first(self):
        self.assertIs(before("", "a", "ab"), True)
        self.assertIs(before("a", "", "ab"), False)
        self.assertIs(before("b", "aa", "ab"), True)
        self.assertIs(before("aa", "b", "ab"), False)

    def test_words_as_long_by_the_order_of_the_letters(self):
        self.assertIs(before("ab", "ba", "ab"), True)
        self.assertIs(before("ab", "ba", "ba"), False)
        self.assertIs(before("ba", "ab", "ba"), True)
        self.assertIs(before("aA", "aa", "aA"), False)
        self.assertIs(before("aA", "aa", "Aa"), True)

    def test_the_first_place_where_they_differ_counts(self):
        self.assertIs(before("abb", "baa", "ab"), True)
        self.assertIs(before("bab", "bba", "ab"), True)
        self.assertIs(before("b" * 999 + "a", "b" * 1000, "ab"), True)

    def test_no_word_comes_before_itself(self):
        for word in ("", "a", "abab"):
            self.assertIs(before(word, word, "ab"), False)

    def test_by_names(self):
        self.assertIs(before(letters="ba", other="a", one="b"), True)

    def test_as_numbers_are(self):
        words = [word_of(number, "xay") for number in range(40)]
        for (j, one), (k, other) in itertools.product(enumerate(words), enumerate(words)):
            self.assertIs(before(one, other, "xay"), j < k)

    def test_refused_by_letters_then_one_then_other(self):
        for letters in BAD_LETTERS + no_texts():
            self.refused(NoRule, "letters", before, 1, "1", letters)
        self.refused(NoWord, 1, before, "ac", "cc", "ab")
        self.refused(NoWord, -1, before, None, "cc", "ab")
        self.refused(NoWord, 2, before, "ab", "abc", "ab")
        self.refused(NoWord, -1, before, "ab", None, "ab")
        for thing in no_texts():
            self.refused(NoWord, -1, before, thing, "c", "ab")
            self.refused(NoWord, -1, before, "a", thing, "ab")


class Numbers(SeamCase):
    def test_the_documents_example(self):
        for number, word in enumerate(["", "a", "b", "aa", "ab"]):
            self.assertEqual(number_of(word, "ab"), number)
            self.assertEqual(word_of(number, "ab"), word)

    def test_all_words_in_order(self):
        for letters in ("a", "ab", "ba", "zaZ", "dcba"):
            words = ["".join(signs) for many in range(5) for signs in itertools.product(letters, repeat=many)]
            for number, word in enumerate(words):
                self.assertEqual(number_of(word, letters), number)
                self.assertEqual(word_of(number, letters), word)

    def test_there_and_back(self):
        for letters in ("a", "ab", "cab", SIXTEEN):
            for number in [*range(61), 1000, 12345, 10 ** 9, 10 ** 15 + 7]:
                if len(letters) > 1 or number <= 60:
                    self.assertEqual(number_of(word_of(number, letters), letters), number)

    def test_one_letter(self):
        for many in range(61):
            self.assertEqual(word_of(many, "q"), "q" * many)
        self.assertEqual(number_of("q" * 1000, "q"), 1000)

    def test_number_of_long_words(self):
        self.assertEqual(number_of("a" * 1000, "ab"), 2 ** 1000 - 1)
        self.assertEqual(number_of("b" * 1000, "ab"), 2 ** 1001 - 2)
        self.assertEqual(number_of("a" * 1000, SIXTEEN), (16 ** 1000 - 1) // 15)
        self.assertEqual(number_of("a" * 999 + "b", SIXTEEN), (16 ** 1000 - 1) // 15 + 1)

    def test_the_last_word_of_sixty_signs(self):
        for letters in ("a", "ab", "bca", SIXTEEN):
            last = number_of(letters[-1] * 60, letters)
            self.assertEqual(word_of(last, letters), letters[-1] * 60)
            self.refused(TooMuch, 60, word_of, last + 1, letters)
            self.refused(TooMuch, 60, word_of, last + 2, letters)
            self.refused(TooMuch, 60, word_of, last * 1000, letters)
            self.refused(TooMuch, 60, word_of, 10 ** 5000, letters)

    def test_by_names(self):
        self.assertEqual(number_of(letters="ba", word="ab"), 5)
        self.assertEqual(word_of(letters="ba", number=5), "ab")

    def test_word_of_refused(self):
        for number in [-1, -2, -10 ** 30] + no_wholes():
            self.refused(NoRule, "number", word_of, number, "ab")
        for letters in BAD_LETTERS + no_texts():
            for number in (0, 5, -1, True, "a", 10 ** 100):
                self.refused(NoRule, "letters", word_of, number, letters)

    def test_number_of_refused(self):
        self.refused(NoWord, 0, number_of, "c", "ab")
        self.refused(NoWord, 2, number_of, "ab1", "ab")
        for thing in no_texts():
            self.refused(NoWord, -1, number_of, thing, "ab")
        for letters in BAD_LETTERS + no_texts():
            for word in ("", "a", "1", None):
                self.refused(NoRule, "letters", number_of, word, letters)

    def test_truths_are_no_numbers(self):
        for truth in (True, False):
            self.refused(NoRule, "number", word_of, truth, "ab")
            self.refused(NoRule, "number", word_of, truth, "a")


class LastSigns(SeamCase):
    def test_some(self):
        rows = [("", 0, ""), ("", 2, ""), ("a", 0, ""), ("a", 1, "a"), ("abc", 5, "abc"), ("abc", 2, "bc"),
                ("abc", 3, "abc"), ("abcd", 0, "")]
        for text, many, told in rows:
            self.assertEqual(last_signs(text, many), told)


class Things(SeamCase):
    def test_there_are_things_of_every_kind(self):
        self.assertTrue(any(thing is True for thing in things()))
        self.assertTrue(any(thing is None for thing in no_texts()))


if __name__ == "__main__":
    unittest.main()
