"""Papers: what shows that a machine has a shaper's rows."""

from markseam.errors import NoPaper
from markseam.least import machine_of_stands
from markseam.signs import is_text
from markseam.stands import Feeder, is_stand, stands_of, start
from markseam.whole import is_within


def paper_of(shaper, letters):
    """Tell for each stand the room of the least machine, and what the machine told sooner by then."""
    stands = stands_of(shaper, letters)
    machine = machine_of_stands(letters, stands)
    rooms = machine.rooms()
    led = {0: (0, machine.first())}
    # Each stand but the first one is led to by one that stands ahead of it.
    for number, row in enumerate(stands):
        room, more = led[number]
        for (text, goal), (told, reached) in zip(rooms[room][1], row[2]):
            if reached not in led:
                led[reached] = (goal, (more + text)[len(told):])
    return [(stands[number][0], room, more) for number, (room, more) in sorted(led.items())]


def is_thing(shaper, machine, thing):
    """Tell whether a thing has the form that a paper's things have."""
    if not isinstance(thing, tuple) or len(thing) != 3:
        return False
    stand, room, more = thing
    return is_stand(shaper, stand) and is_within(room, 0, len(machine) - 1) and is_text(more)


def holds(feeder, letters, room, thing, known):
    """Tell whether a thing's end is that of its room, and each letter leads to what the paper has."""
    stand, _, more = thing
    end, ways = room
    if feeder.ended(stand) != more + end:
        return False
    for letter, (text, goal) in zip(letters, ways):
        told, then = feeder.fed(stand, letter)
        ahead = more + text
        if not ahead.startswith(told) or (then, goal, ahead[len(told):]) not in known:
            return False
    return True


def check_paper(shaper, machine, paper):
    """Refuse a paper that does not show that the machine has the shaper's rows."""
    if not isinstance(paper, list) or len(paper) == 0:
        raise NoPaper(0)
    known = {thing: True for thing in paper if is_thing(shaper, machine, thing)}
    begin = (start(shaper), 0, machine.first())
    feeder = Feeder(shaper)
    rooms = machine.rooms()
    stands = {}
    for number, thing in enumerate(paper):
        if not is_thing(shaper, machine, thing) or thing[0] in stands:
            raise NoPaper(number)
        if number == 0 and thing != begin:
            raise NoPaper(number)
        if not holds(feeder, machine.letters(), rooms[thing[1]], thing, known):
            raise NoPaper(number)
        stands[thing[0]] = True
