"""Desks: told rows, one at a time, they answer each with a text."""

from markseam.deeds import done
from markseam.errors import NoRow
from markseam.stock import Stock
from markseam.things import read_things, takes


class Desk:
    """Keeps shapers and pages by names, and the ranks of marks."""

    def __init__(self):
        self._stock = Stock()

    def say(self, row):
        """Tell the answer to a row: a deed's name, and the things that it takes."""
        if not isinstance(row, str):
            raise NoRow(-1)
        words = row.split(" ")
        deed = words[0]
        if not takes(deed, len(words) - 1):
            raise NoRow(len(words))
        return done(self._stock, deed, read_things(self._stock, deed, words[1:]))
