"""Machines: rooms that read a word letter by letter and tell its row."""

from markseam.errors import NoRule
from markseam.signs import is_text, want_letters, want_word
from markseam.whole import is_within

MOST_ROOMS = 200


def is_way(thing, many):
    """Tell whether a thing is a way of a machine with so many rooms."""
    if not isinstance(thing, tuple) or len(thing) != 2:
        return False
    return is_text(thing[0]) and is_within(thing[1], 0, many - 1)


def is_room(thing, letters, many):
    """Tell whether a thing is a room of a machine over the letters with so many rooms."""
    if not isinstance(thing, tuple) or len(thing) != 2:
        return False
    end, ways = thing
    if not is_text(end) or not isinstance(ways, list) or len(ways) != len(letters):
        return False
    return all([is_way(way, many) for way in ways])


def copied(rooms):
    """Tell rooms with lists of their own."""
    return [(end, list(ways)) for end, ways in rooms]


def kept_rooms(rooms, letters):
    """Tell the rooms that a machine keeps; refuse what is none of them."""
    if not isinstance(rooms, list) or not 1 <= len(rooms) <= MOST_ROOMS:
        raise NoRule("rooms")
    if not all([is_room(room, letters, len(rooms)) for room in rooms]):
        raise NoRule("rooms")
    return copied(rooms)


def word_to(trail, number):
    """Tell the word by which a walk came to a thing.

    A trail has for each thing, by its number, the number of the thing that the
    walk came from, and the letter; the walk began at the thing of number 0.
    """
    signs = []
    at = number
    while at > 0:
        at, letter = trail[at]
        signs.append(letter)
    return "".join(signs[::-1])


def first_words(machine):
    """Tell the rooms to which words lead, each with the first one, in the order of these words."""
    letters = machine.letters()
    rooms = machine.rooms()
    words = {0: ""}
    order = [0]
    at = 0
    while at < len(order):
        room = order[at]
        for letter, (_, goal) in zip(letters, rooms[room][1]):
            if goal not in words:
                words[goal] = words[room] + letter
                order.append(goal)
        at += 1
    return words


class Machine:
    """Rooms that lead to one another by letters, and what is told on the way."""

    def __init__(self, letters, rooms, first=""):
        want_letters(letters)
        kept = kept_rooms(rooms, letters)
        if not is_text(first):
            raise NoRule("first")
        self._letters = letters
        self._rooms = kept
        self._first = first

    def told_from(self, number, word):
        """Tell what is told for a word from a room on, ahead of the end, and the room then."""
        told = []
        room = number
        for sign in word:
            text, room = self._rooms[room][1][self._letters.index(sign)]
            told.append(text)
        return ("".join(told), room)

    def row_from(self, number, word):
        """Tell what is told for a word from a room on, with the end."""
        text, room = self.told_from(number, word)
        return text + self._rooms[room][0]

    def row(self, word):
        """Tell all that is told for a word."""
        want_word(word, self._letters)
        return self._first + self.row_from(0, word)

    def told(self, word):
        """Tell what is told for a word ahead of the end, and the room then."""
        want_word(word, self._letters)
        text, room = self.told_from(0, word)
        return (self._first + text, room)

    def letters(self):
        """Tell the letters."""
        return self._letters

    def first(self):
        """Tell what is told ahead of any letter."""
        return self._first

    def rooms(self):
        """Tell the rooms."""
        return copied(self._rooms)

    def __len__(self):
        return len(self._rooms)

    def __eq__(self, other):
        return (isinstance(other, Machine) and self._letters == other._letters
                and self._rooms == other._rooms and self._first == other._first)

    def __str__(self):
        return f"{len(self._rooms)} rooms over {self._letters}"
