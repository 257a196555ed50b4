"""Judging: machines and shapers held against each other for all words."""

from markseam.errors import NoPaper, NoRoom, NoRule, TooMuch
from markseam.least import least_of, machine_of
from markseam.machine import MOST_ROOMS, Machine, word_to
from markseam.signs import common_start, is_text, want_letters
from markseam.whole import is_within


def left_over(one, other):
    """Tell what is left of two texts when their common start is taken from both."""
    many = len(common_start(one, other))
    return (one[many:], other[many:])


def ends_alike(rooms, others, thing):
    """Tell whether both words have one row where they end at a thing (j, k, more, less)."""
    j, k, more, less = thing
    return more + rooms[j][0] == less + others[k][0]


def moved(rooms, others, thing, at):
    """Tell the thing to which the letter at a place leads from another one."""
    j, k, more, less = thing
    text, goal = rooms[j][1][at]
    said, last = others[k][1][at]
    rest, left = left_over(more + text, less + said)
    return (goal, last, rest, left)


def walked(letters, rooms, others, begin):
    """Walk rooms of two machines side by side, from the thing at which they begin.

    Tell the first word that parts them, or None, and the things that came by
    then. Things come in the order of their first words. Where two unlike rests
    come for the same two rooms, the ends can be alike for one of them alone; so
    each pair of rooms is gone on from but once.
    """
    things = [begin]
    trail = [(0, "")]
    if not ends_alike(rooms, others, begin):
        return ("", things)
    seen = {(begin[0], begin[1]): True}
    at = 0
    while at < len(things):
        for place, letter in enumerate(letters):
            thing = moved(rooms, others, things[at], place)
            if not ends_alike(rooms, others, thing):
                return (word_to(trail, at) + letter, things)
            if (thing[0], thing[1]) not in seen:
                seen[(thing[0], thing[1])] = True
                things.append(thing)
                trail.append((at, letter))
        at += 1
    return (None, things)


def want_same_letters(one, other):
    """Refuse two machines that have not the same letters in the same order."""
    if one.letters() != other.letters():
        raise NoRule("letters")


def begin_of(one, other):
    """Tell the thing at which two machines begin."""
    more, less = left_over(one.first(), other.first())
    return (0, 0, more, less)


def held(one, other):
    """Tell the first word that parts two machines, or None, and the things that came by then."""
    want_same_letters(one, other)
    return walked(one.letters(), one.rooms(), other.rooms(), begin_of(one, other))


def parting(one, other):
    """Tell the first word whose rows are not the same, None where there is none."""
    word, _ = held(one, other)
    return word


def alike(one, other):
    """Tell the first word that parts two machines, or a list of pairs that shows that none does."""
    word, things = held(one, other)
    if word is not None:
        return ("unlike", word)
    return ("alike", things)


def is_thing(one, other, thing):
    """Tell whether a thing has the form that the things of a list of pairs have."""
    if not isinstance(thing, tuple) or len(thing) != 4:
        return False
    j, k, more, less = thing
    if not is_within(j, 0, len(one) - 1) or not is_within(k, 0, len(other) - 1):
        return False
    return is_text(more) and is_text(less) and (more == "" or less == "")


def check_alike(one, other, pairs):
    """Refuse a list that does not show that two machines have the same row for every word."""
    want_same_letters(one, other)
    if not isinstance(pairs, list) or len(pairs) == 0:
        raise NoPaper(0)
    known = {thing: True for thing in pairs if is_thing(one, other, thing)}
    begin = begin_of(one, other)
    rooms = one.rooms()
    others = other.rooms()
    places = list(range(len(one.letters())))
    for number, thing in enumerate(pairs):
        if not is_thing(one, other, thing) or (number == 0 and thing != begin):
            raise NoPaper(number)
        if not ends_alike(rooms, others, thing):
            raise NoPaper(number)
        # Rests that both have signs are in no thing of the right form.
        if not all([moved(rooms, others, thing, at) in known for at in places]):
            raise NoPaper(number)


def rooms_parted(machine, j, k):
    """Tell the first word whose row from one room on is another one than from the other, or None."""
    for number in (j, k):
        if not is_within(number, 0, len(machine) - 1):
            raise NoRoom(number)
    rooms = machine.rooms()
    word, _ = walked(machine.letters(), rooms, rooms, (j, k, "", ""))
    return word


def want_rows_of(one, other):
    """Refuse two machines of which the one can tell a sign that is none of the other's letters."""
    told = [one.first()]
    for end, ways in one.rooms():
        told.append(end)
        told.extend([text for text, _ in ways])
    if len(set("".join(told)) - set(other.letters())) > 0:
        raise NoRule("letters")


def number_in(numbers, pair):
    """Tell the number of a pair of rooms; one that is new has the next number from now on."""
    if pair not in numbers:
        if len(numbers) == MOST_ROOMS:
            raise TooMuch(MOST_ROOMS)
        numbers[pair] = len(numbers)
    return numbers[pair]


def after(one, other):
    """Tell the least machine that has the other's row of the one's row of each word."""
    want_rows_of(one, other)
    rooms = one.rooms()
    first, begin = other.told(one.first())
    numbers = {(0, begin): 0}
    joined = []
    while len(joined) < len(numbers):
        j, k = list(numbers)[len(joined)]
        end, ways = rooms[j]
        moves = []
        for text, goal in ways:
            told, last = other.told_from(k, text)
            moves.append((told, number_in(numbers, (goal, last))))
        joined.append((other.row_from(k, end), moves))
    return least_of(Machine(one.letters(), joined, first))


def shows(shaper, at, number, letters):
    """Tell the first word whose row is another one without a rule, None where there is none."""
    want_letters(letters)
    other = shaper.without(at, number)
    return parting(machine_of(shaper, letters), machine_of(other, letters))


def idle(shaper, letters):
    """Tell the rules without which, each left out alone, all words have the same rows."""
    # A shaper without rules has one stand, so this refuses nothing but letters that no shows would refuse.
    machine = machine_of(shaper, letters)
    told = []
    for at, one in enumerate(shaper.passes()):
        for number in range(len(one)):
            if parting(machine, machine_of(shaper.without(at, number), letters)) is None:
                told.append((at, number))
    return told


def may_change(shaper, at, letters):
    """Tell the first word whose row is another one with two passes exchanged, None where there is none."""
    want_letters(letters)
    other = shaper.exchanged(at)
    return parting(machine_of(shaper, letters), machine_of(other, letters))
