"""Texts of rules, shapers and machines, shown and read."""

from markseam.machine import MOST_ROOMS, Machine
from markseam.passes import MOST_RULES, Pass
from markseam.reader import Reader
from markseam.rules import EDGE, MOST_PUT, MOST_TAKEN, Rule
from markseam.shaper import MOST_PASSES, Shaper

PASS_ROW = "pass\n"


def shown_rule(rule):
    """Tell a Rule's text."""
    return str(rule)


def shown_shaper(shaper):
    """Tell a Shaper's text."""
    rows = []
    for one in shaper.passes():
        rows.append(PASS_ROW)
        rows.extend([shown_rule(rule) + "\n" for rule in one.rules()])
    return "".join(rows)


def shown_room(room):
    """Tell a room's row in a Machine's text."""
    end, ways = room
    shown = "".join([f"/{text}>{goal}" for text, goal in ways])
    return f"{end}{shown}\n"


def shown_machine(machine):
    """Tell a Machine's text."""
    rows = "".join([shown_room(room) for room in machine.rooms()])
    return f"{machine.letters()}/{machine.first()}\n{rows}"


def place_or_edge(reader):
    """Read a place, or the edge."""
    if reader.comes(EDGE):
        reader.want(EDGE)
        return EDGE
    return reader.place()


def read_behind(reader):
    """Read the places of behind: the edge may stand first."""
    if reader.comes("/"):
        return []
    places = [place_or_edge(reader)]
    if reader.comes("."):
        reader.want(".")
        places.append(reader.place())
    return places


def read_what(reader):
    """Read the places of what."""
    places = [reader.place()]
    while len(places) < MOST_TAKEN and reader.comes("."):
        reader.want(".")
        places.append(reader.place())
    return places


def read_ahead(reader):
    """Read the places of ahead: the edge may stand last."""
    if reader.comes(">"):
        return []
    places = [place_or_edge(reader)]
    if places[0] != EDGE and reader.comes("."):
        reader.want(".")
        places.append(place_or_edge(reader))
    return places


def next_rule(reader):
    """Read a Rule's text."""
    behind = read_behind(reader)
    reader.want("/")
    what = read_what(reader)
    reader.want("/")
    ahead = read_ahead(reader)
    reader.want(">")
    return Rule(what, reader.signs(MOST_PUT), behind, ahead)


def read_rule(text):
    """Tell the Rule that has a text."""
    reader = Reader(text)
    rule = next_rule(reader)
    reader.want_end()
    return rule


def read_row(reader, passes):
    """Read one row of a Shaper's text; passes has the rules of each pass so far."""
    may_pass = len(passes) < MOST_PASSES
    may_rule = len(passes) > 0 and len(passes[-1]) < MOST_RULES
    # No rule's text begins with pa, as the signs of a place rise.
    if may_pass and (reader.comes("pa") or not may_rule):
        reader.want(PASS_ROW)
        passes.append([])
    elif may_rule:
        passes[-1].append(next_rule(reader))
        reader.want("\n")
    else:
        reader.refuse()


def read_shaper(text):
    """Tell the Shaper that has a text."""
    reader = Reader(text)
    passes = []
    while not reader.at_end():
        read_row(reader, passes)
    return Shaper([Pass(rules) for rules in passes])


def read_room(reader, letters):
    """Read a room's row of a Machine's text."""
    end = reader.signs()
    ways = []
    for _ in letters:
        reader.want("/")
        text = reader.signs()
        reader.want(">")
        ways.append((text, reader.number_to(MOST_ROOMS - 1)))
    reader.want("\n")
    return (end, ways)


def read_machine(text):
    """Tell the Machine that has a text."""
    reader = Reader(text)
    letters = reader.letters()
    reader.want("/")
    first = reader.signs()
    reader.want("\n")
    rooms = [read_room(reader, letters)]
    while not reader.at_end():
        if len(rooms) == MOST_ROOMS:
            reader.refuse()
        rooms.append(read_room(reader, letters))
    # Rows that come later could still make such a room, so it is the end that can't stand here.
    if max([way[1] for _, ways in rooms for way in ways]) >= len(rooms):
        reader.refuse()
    return Machine(letters, rooms, first)
