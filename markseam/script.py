"""Scripts: a word's marks are put in order, and what comes of it is shaped."""

from markseam.order import ordered


class Script:
    """A case that puts marks in order, and a shaper that goes over the ordered text."""

    def __init__(self, case, shaper):
        self.case = case
        self.shaper = shaper

    def row(self, word):
        """Tell the word's row."""
        text, _ = ordered(self.case, word)
        return self.shaper.row(text)

    def glyphs(self, word):
        """Tell each sign of the row, and the places, in the word, of the letters to which it leads."""
        text, places = ordered(self.case, word)
        return [(sign, sorted([places[at] for at in led])) for sign, led in self.shaper.glyphs(text)]

    def letters_to(self, word):
        """Tell for each letter of the word the numbers of the signs that lead to it."""
        glyphs = self.glyphs(word)
        told = [[] for _ in word]
        for number, (_, letters) in enumerate(glyphs):
            for at in letters:
                told[at].append(number)
        return told

    def __eq__(self, other):
        return isinstance(other, Script) and self.case == other.case and self.shaper == other.shaper
