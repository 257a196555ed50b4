"""Least machines: all that is sure is told, and rooms that come to the same are one."""

from markseam.machine import Machine, first_words
from markseam.signs import common_start
from markseam.stands import stands_of


def reached_rooms(machine):
    """Tell the rooms to which words lead, numbered anew in the order of the first words."""
    rooms = machine.rooms()
    order = list(first_words(machine))
    numbers = {room: number for number, room in enumerate(order)}
    return [(rooms[room][0], [(text, numbers[goal]) for text, goal in rooms[room][1]]) for room in order]


def rooms_ahead(rooms):
    """Tell for each room those from which a way leads to it."""
    ahead = [[] for _ in rooms]
    for room, (_, ways) in enumerate(rooms):
        for goal in sorted({way[1] for way in ways}):
            ahead[goal].append(room)
    return ahead


def sure_texts(rooms):
    """Tell for each room the longest text with which begins all that is told from it on.

    It begins with the ends, that are too long at most, and is cut as the ways
    demand it; where a room's text was cut, the rooms ahead of it are asked anew.
    """
    sure = [end for end, _ in rooms]
    ahead = rooms_ahead(rooms)
    asked = list(range(len(rooms)))[::-1]
    waits = [True] * len(rooms)
    at = 0
    while at < len(asked):
        room = asked[at]
        at += 1
        waits[room] = False
        text = sure[room]
        for told, goal in rooms[room][1]:
            text = common_start(text, told + sure[goal])
        if text != sure[room]:
            sure[room] = text
            fresh = [one for one in ahead[room] if not waits[one]]
            for one in fresh:
                waits[one] = True
            asked.extend(fresh)
    return sure


def sooner_rooms(rooms, sure):
    """Tell the rooms such that each text is told as soon as it is sure."""
    moved = []
    for (end, ways), text in zip(rooms, sure):
        many = len(text)
        moved.append((end[many:], [((told + sure[goal])[many:], goal) for told, goal in ways]))
    return moved


def numbered(keys):
    """Tell for each key the number that all of its kind have, in the order in which they come."""
    numbers = {}
    for key in keys:
        if key not in numbers:
            numbers[key] = len(numbers)
    return [numbers[key] for key in keys]


def kinds_of(rooms):
    """Tell for each room the number of its kind: rooms that tell the same for all words are of one."""
    kinds = numbered([(end, tuple([way[0] for way in ways])) for end, ways in rooms])
    many = 0
    # Each round looks one letter farther; a round that parts nothing is the last one.
    while many < max(kinds):
        many = max(kinds)
        kinds = numbered([(kind, tuple([kinds[way[1]] for way in room[1]])) for kind, room in zip(kinds, rooms)])
    return kinds


def least_of(machine):
    """Tell the least machine that has the same rows."""
    rooms = reached_rooms(machine)
    sure = sure_texts(rooms)
    moved = sooner_rooms(rooms, sure)
    kinds = kinds_of(moved)
    kept = []
    for kind, (end, ways) in zip(kinds, moved):
        # Kinds are numbered as they come, so a kind's first room finds just those ahead of it kept.
        if kind == len(kept):
            kept.append((end, [(text, kinds[goal]) for text, goal in ways]))
    return Machine(machine.letters(), kept, machine.first() + sure[0])


def machine_of_stands(letters, stands):
    """Tell the least machine that goes through the stands that stands_of tells."""
    return least_of(Machine(letters, [(end, ways) for _, end, ways in stands]))


def machine_of(shaper, letters):
    """Tell the least machine that has the shaper's rows for all words of the letters."""
    return machine_of_stands(letters, stands_of(shaper, letters))
