"""Carets: the spans of a word, and where a caret may stand in it."""

from markseam.case import clusters
from markseam.errors import NoPlace
from markseam.whole import is_whole


def running(numbers):
    """Tell what the numbers ahead of each one come to, and last what all come to."""
    told = [0]
    for number in numbers:
        told.append(told[-1] + number)
    return told


def is_crossed(word, glyphs):
    """Tell for each place of a word, and its end, whether a sign leads to letters on both sides of it."""
    turns = [0] * (len(word) + 1)
    for _, letters in glyphs:
        turns[letters[0] + 1] += 1
        turns[letters[-1] + 1] -= 1
    return [many > 0 for many in running(turns)[1:]]


def signs_ahead(word, glyphs):
    """Tell for each place of a word, and its end, how many signs lead to a letter ahead of it."""
    begun = [0] * len(word)
    for _, letters in glyphs:
        begun[letters[0]] += 1
    return running(begun)


def spans_of(case, word, glyphs):
    """Tell the spans of a word by the signs of its row."""
    crossed = is_crossed(word, glyphs)
    ahead = signs_ahead(word, glyphs)
    clean = [begin for begin, _ in clusters(case, word) if not crossed[begin]] + [len(word)]
    # At clean places each sign lies to one side, so those ahead are just the first ones of the row.
    return [(begin, end, ahead[begin], ahead[end]) for begin, end in zip(clean, clean[1:])]


def spans(hand, word):
    """Tell each span of a word: its letters' begin and end, and its signs' first and behind the last."""
    return spans_of(hand.case, word, hand.glyphs(word))


def stops(hand, word):
    """Tell where a caret may stand: each cluster's begin and the word's end, with their x."""
    glyphs = hand.glyphs(word)
    ahead = running([hand.case.wide_of(sign) for sign, _ in glyphs])
    begins = [begin for begin, _ in clusters(hand.case, word)]
    numbers = {begin: number for number, begin in enumerate(begins + [len(word)])}
    told = []
    for begin, end, first, last in spans_of(hand.case, word, glyphs):
        shared = begins[numbers[begin]:numbers[end]]
        wide = ahead[last] - ahead[first]
        told.extend([(at, ahead[first] + wide * j // len(shared)) for j, at in enumerate(shared)])
    told.append((len(word), ahead[-1]))
    return told


def caret(hand, word, place):
    """Tell the x of the stop at a place."""
    found = [x for at, x in stops(hand, word) if is_whole(place) and at == place]
    if len(found) == 0:
        raise NoPlace(place)
    return found[0]


def hit(hand, word, x):
    """Tell the place of the stop nearest to an x, the first of those that are as near."""
    nearest = min(stops(hand, word), key=lambda stop: abs(stop[1] - x))
    return nearest[0]
