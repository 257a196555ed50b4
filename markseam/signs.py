"""Signs, letters, words, and the order of the words of some letters."""

from markseam.errors import NoRule, NoWord, TooMuch
from markseam.whole import is_whole

SIGNS = "ABCDEFGHIJKLMNOPQRSTUVWXYZabcdefghijklmnopqrstuvwxyz"
MOST_LETTERS = 16
LONGEST_TOLD = 60


def is_sign(thing):
    """Tell True of a sign, False of anything else."""
    return isinstance(thing, str) and len(thing) == 1 and thing in SIGNS


def is_text(thing):
    """Tell whether a thing is a text of signs, of any length."""
    # The letters of ASCII are just the fifty-two signs, and long texts are judged at once so.
    return isinstance(thing, str) and (thing == "" or (thing.isascii() and thing.isalpha()))


def are_signs(thing, least, most):
    """Tell whether a thing is a text of signs, from least to most of them."""
    return is_text(thing) and least <= len(thing) <= most


def are_unlike_signs(thing, most):
    """Tell whether a thing is a text of one or more unlike signs, at most so many."""
    return are_signs(thing, 1, most) and len(set(thing)) == len(thing)


def want_letters(letters):
    """Refuse what are no letters with NoRule."""
    if not are_unlike_signs(letters, MOST_LETTERS):
        raise NoRule("letters")


def want_word(word, letters=None):
    """Refuse what is no word (of the letters, where they are handed in) with NoWord."""
    allowed = SIGNS
    if letters is not None:
        want_letters(letters)
        allowed = letters
    if not isinstance(word, str):
        raise NoWord(-1)
    for at, sign in enumerate(word):
        if sign not in allowed:
            raise NoWord(at)


def want_word_of(word, letters):
    """Refuse what is no word of the letters; unlike want_word, None is no letters here."""
    want_letters(letters)
    want_word(word, letters)


def common_start(one, other):
    """Tell the longest text with which both texts begin."""
    # Mostly one is a beginning of the other, and long ones are compared at once so.
    if other.startswith(one):
        return one
    if one.startswith(other):
        return other
    many = 0
    for sign, said in zip(one, other):
        if sign != said:
            break
        many += 1
    return one[:many]


def last_signs(text, many):
    """Tell the last signs of a text, so many, or all where it has fewer."""
    # text[-many:] would tell all of them where many is 0.
    return text[max(0, len(text) - many):]


def before(one, other, letters):
    """Tell whether the one word comes before the other in the order of the letters."""
    want_word_of(one, letters)
    want_word_of(other, letters)
    return word_key(one, letters) < word_key(other, letters)


def word_key(word, letters):
    """Tell what words are compared by: their lengths, then their letters' places."""
    return (len(word), [letters.index(sign) for sign in word])


def number_of(word, letters):
    """Tell the number of a word in the order of all words of the letters."""
    want_word_of(word, letters)
    number = 0
    for sign in word:
        # Each letter counts from 1 on: from 0 on, `a` and `aa` would have the same number.
        number = number * len(letters) + letters.index(sign) + 1
    return number


def word_of(number, letters):
    """Tell the word that has a number in the order of all words of the letters."""
    want_letters(letters)
    if not is_whole(number) or number < 0:
        raise NoRule("number")
    signs = []
    left = number
    while left > 0:
        if len(signs) == LONGEST_TOLD:
            raise TooMuch(LONGEST_TOLD)
        left -= 1
        signs.append(letters[left % len(letters)])
        left //= len(letters)
    return "".join(signs[::-1])
