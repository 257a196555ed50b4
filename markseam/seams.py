"""Seams: where the row of a word may be parted, whatever follows."""

from markseam.back import in_turn, loop_in
from markseam.errors import NoPlace
from markseam.judging import walked
from markseam.least import least_of
from markseam.machine import first_words
from markseam.signs import want_word
from markseam.whole import is_within


def rooms_along(machine, word):
    """Tell the rooms in which a machine is behind each beginning of a word."""
    letters = machine.letters()
    rooms = machine.rooms()
    told = [0]
    for sign in word:
        _, goal = rooms[told[-1]][1][letters.index(sign)]
        told.append(goal)
    return told


def has_seams(least):
    """Tell whether any place of any word can be a seam by a machine."""
    return least.row("") == ""


def seams_by_least(least, word):
    """Tell the seams of a word by a least machine.

    Such a machine owes nothing at a seam, as it tells what is sure at once; and
    it is in room 0, as no other room has the same rows from then on.
    """
    if not has_seams(least):
        return []
    return [at for at, room in enumerate(rooms_along(least, word)) if room == 0]


def seams(machine, word):
    """Tell the seams of a word."""
    want_word(word, machine.letters())
    return seams_by_least(least_of(machine), word)


def no_seam(machine, word, k):
    """Tell the first word that shows that a place is no seam, None where it is one."""
    want_word(word, machine.letters())
    if not is_within(k, 0, len(word)):
        raise NoPlace(k)
    least = least_of(machine)
    rooms = least.rooms()
    room = rooms_along(least, word[:k])[-1]
    # To the one side stands what is told from here on, to the other the end told here, and then all anew.
    begin = (room, 0, "", rooms[room][0] + least.first())
    shown, _ = walked(least.letters(), rooms, rooms, begin)
    return shown


def pieces(machine, word):
    """Tell the texts into which a word falls at its seams."""
    cuts = [0] + seams(machine, word) + [len(word)]
    return [word[begin:end] for begin, end in zip(cuts, cuts[1:]) if begin < end]


def onward_rooms(least):
    """Tell for each room the goals to which ways lead that come to no seam, in the letters' order."""
    return {number: {way[1]: True for way in room[1] if way[1] != 0} for number, room in enumerate(least.rooms())}


def letters_along(least, rooms):
    """Tell the first word that leads from each of the rooms to the next one."""
    goals = [[way[1] for way in room[1]] for room in least.rooms()]
    return "".join([least.letters()[goals[one].index(then)] for one, then in zip(rooms, rooms[1:])])


def longest_way(goals, order):
    """Tell the rooms of the longest way from room 0 on, the first of several; order has rooms ahead of their goals."""
    left = {}
    for room in order[::-1]:
        left[room] = max([left[goal] + 1 for goal in goals[room]], default=0)
    told = [0]
    while left[told[-1]] > 0:
        far = [goal for goal in goals[told[-1]] if left[goal] + 1 == left[told[-1]]]
        told.append(far[0])
    return told


def seamless(machine):
    """Tell the longest word without a seam from place 1 on, or two texts that make words of any length so."""
    least = least_of(machine)
    if not has_seams(least):
        return ("never", "", least.letters()[0])
    goals = onward_rooms(least)
    order = in_turn(goals)
    if len(order) == len(goals):
        return ("within", letters_along(least, longest_way(goals, order)))
    found = loop_in(goals, order)
    # The first word that leads to a room passes room 0 but at its begin.
    return ("never", first_words(least)[found[0]], letters_along(least, found + [found[0]]))
