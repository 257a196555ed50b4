"""Marks put in order by their ranks, and the exchanges that lead there."""

from markseam.case import clusters
from markseam.errors import NoPlace
from markseam.signs import common_start, want_word
from markseam.whole import is_within


def ordered_height(case, sign):
    """Tell how late a sign comes in an ordered cluster: fore marks, the base, hung marks."""
    rank = case.rank_of(sign)
    if rank is None:
        return 1
    if rank == 0:
        return 0
    return rank + 1


def settled_height(case, sign):
    """Tell how late a sign comes in a settled cluster: the base, then all marks."""
    rank = case.rank_of(sign)
    if rank is None:
        return 0
    return rank + 1


def places_by(case, word, height):
    """Tell the word's places, within each cluster by the heights of the signs, rising."""
    places = []
    for begin, end in clusters(case, word):
        # The place stands behind the height, so that signs as high stay as they stood.
        pairs = [(height(case, word[at]), at) for at in range(begin, end)]
        places.extend([pair[1] for pair in sorted(pairs)])
    return places


def text_at(word, places):
    """Tell the text of a word's signs at the places."""
    return "".join([word[at] for at in places])


def ordered(case, word):
    """Tell the word with its marks in order, and for each sign the place at which it stood."""
    places = places_by(case, word, ordered_height)
    return (text_at(word, places), places)


def settled(case, word):
    """Tell the word with each cluster's base first, then its marks by their ranks."""
    return text_at(word, places_by(case, word, settled_height))


def turned(word, row):
    """Tell the text that a row of exchanges leads the word to."""
    want_word(word)
    if not isinstance(row, list):
        raise NoPlace(-1)
    for number, at in enumerate(row):
        if not is_within(at, 0, len(word) - 2):
            raise NoPlace(number)
    signs = list(word)
    for at in row:
        signs[at], signs[at + 1] = signs[at + 1], signs[at]
    return "".join(signs)


def row_between(places, goals):
    """Tell the exchanges that lead each sign from its place to its goal.

    Each one exchanges two signs that stand the wrong way round, and parts no
    others, so no row of exchanges that leads there is shorter.
    """
    left = [0] * len(places)
    for place, goal in zip(places, goals):
        left[place] = goal
    row = []
    for many in range(1, len(places)):
        at = many
        while at > 0 and left[at - 1] > left[at]:
            at -= 1
            left[at], left[at + 1] = left[at + 1], left[at]
            row.append(at)
    return row


def exchanges(case, word):
    """Tell a shortest row of exchanges that leads the word to the text of ordered."""
    places = places_by(case, word, ordered_height)
    return row_between(places, list(range(len(places))))


def unlike_at(case, one, other):
    """Tell the first place at which both words, settled, are unlike, None where they are the same up to their marks."""
    here = settled(case, one)
    there = settled(case, other)
    if here == there:
        return None
    return len(common_start(here, there))


def same_marks(case, one, other):
    """Tell whether two words are the same up to their marks, and what shows it."""
    at = unlike_at(case, one, other)
    if at is not None:
        return ("unlike", at)
    return ("same", row_between(places_by(case, one, settled_height), places_by(case, other, settled_height)))
