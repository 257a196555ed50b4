"""Twins: whether two words of a machine's letters have one row."""

from markseam.errors import NoPaper, TooMuch
from markseam.machine import first_words
from markseam.signs import is_text
from markseam.whole import is_within

MOST_KNOTS = 3000


def knots_of_letters(ways, letters):
    """Tell the knots that come of a room by two letters, each with the letters of the word ahead and behind."""
    found = []
    for late, letter in enumerate(letters):
        text, goal = ways[late]
        for early in range(late):
            said, last = ways[early]
            if said.startswith(text):
                found.append(((last, goal, said[len(text):]), letters[early], letter))
            elif text.startswith(said):
                found.append(((goal, last, text[len(said):]), letter, letters[early]))
    return found


def knots_of_end(end, ways, letters):
    """Tell the knots that come of a room where the word ahead ends, each with the letters of both words."""
    return [((None, goal, end[len(text):]), "", letter)
            for letter, (text, goal) in zip(letters, ways) if end.startswith(text)]


def knots_of_room(room, letters):
    """Tell the knots that come of a room, each with the letters of the word ahead and of the one behind."""
    end, ways = room
    return knots_of_letters(ways, letters) + knots_of_end(end, ways, letters)


def knots_from(rooms, letters, knot):
    """Tell the knots that come from a knot, each with the letter by which the word behind goes on.

    Where that word comes to be the one ahead, a True stands with it.
    """
    ahead, behind, rest = knot
    end, ways = rooms[behind]
    found = []
    for letter, (text, goal) in zip(letters, ways):
        if rest.startswith(text):
            found.append(((ahead, goal, rest[len(text):]), letter, False))
        elif ahead is not None and text.startswith(rest):
            found.append(((goal, ahead, text[len(rest):]), letter, True))
    if ahead is not None and end.startswith(rest):
        found.append(((None, ahead, end[len(rest):]), "", True))
    return found


def meets(rooms, knot):
    """Tell whether both words of a knot have one row as they are."""
    ahead, behind, rest = knot
    return ahead is None and rooms[behind][0] == rest


def keep_knot(words, knots, knot, pair):
    """Keep a knot that is new, with its words ahead and behind; refuse one too many."""
    if knot not in words:
        if len(knots) == MOST_KNOTS:
            raise TooMuch(MOST_KNOTS)
        words[knot] = pair
        knots.append(knot)


def all_knots(machine):
    """Tell all knots that come, each with two words, ahead and behind, that lead to it."""
    letters = machine.letters()
    rooms = machine.rooms()
    words = {}
    knots = []
    reached = first_words(machine)
    for room in reached:
        for knot, one, other in knots_of_room(rooms[room], letters):
            keep_knot(words, knots, knot, (reached[room] + one, reached[room] + other))
    at = 0
    while at < len(knots):
        one, other = words[knots[at]]
        for knot, letter, turned in knots_from(rooms, letters, knots[at]):
            longer = other + letter
            keep_knot(words, knots, knot, (longer, one) if turned else (one, longer))
        at += 1
    return words


def twins(machine):
    """Tell two words that have one row, or all knots, none of which meets."""
    words = all_knots(machine)
    rooms = machine.rooms()
    for knot in words:
        if meets(rooms, knot):
            one, other = words[knot]
            return ("twins", one, other)
    return ("none", list(words))


def is_knot(machine, thing):
    """Tell whether a thing has the form of a knot."""
    if not isinstance(thing, tuple) or len(thing) != 3:
        return False
    ahead, behind, rest = thing
    if ahead is not None and not is_within(ahead, 0, len(machine) - 1):
        return False
    return is_within(behind, 0, len(machine) - 1) and is_text(rest)


def check_twins(machine, paper):
    """Refuse a paper that does not show that the machine has no twins."""
    if not isinstance(paper, list):
        raise NoPaper(0)
    letters = machine.letters()
    rooms = machine.rooms()
    known = {thing: True for thing in paper if is_knot(machine, thing)}
    for number, thing in enumerate(paper):
        if not is_knot(machine, thing) or meets(rooms, thing):
            raise NoPaper(number)
        if not all([found[0] in known for found in knots_from(rooms, letters, thing)]):
            raise NoPaper(number)
    for room in first_words(machine):
        if not all([found[0] in known for found in knots_of_room(rooms[room], letters)]):
            raise NoPaper(len(paper))
