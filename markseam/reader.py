"""A text that is read sign by sign: the first sign that can't stand is refused."""

from markseam.errors import NoText
from markseam.signs import MOST_LETTERS, is_sign

FIGURES = "0123456789"


class Reader:
    """A text, and how far it was read. Each thing read is told; where it can't stand, NoText tells the place."""

    def __init__(self, text):
        if not isinstance(text, str):
            raise NoText(-1)
        self._text = text
        self._at = 0

    def coming(self):
        """Tell the sign that comes, the text without signs at the end."""
        return self._text[self._at:self._at + 1]

    def at_end(self):
        """Tell whether all was read."""
        return self._at == len(self._text)

    def comes(self, part):
        """Tell whether a text comes."""
        return self._text.startswith(part, self._at)

    def refuse(self):
        """Refuse what comes."""
        raise NoText(self._at)

    def want(self, part):
        """Read just this text."""
        for sign in part:
            if not self.comes(sign):
                raise NoText(self._at)
            self._at += 1

    def want_end(self):
        """Refuse all that comes but the end."""
        if not self.at_end():
            raise NoText(self._at)

    def signs(self, most=None):
        """Read signs, as many as come, or so many at most."""
        begin = self._at
        while is_sign(self.coming()) and (most is None or self._at - begin < most):
            self._at += 1
        return self._text[begin:self._at]

    def place(self):
        """Read a place: signs that rise, at least one."""
        begin = self._at
        while is_sign(self.coming()) and (self._at == begin or self.coming() > self._text[self._at - 1]):
            self._at += 1
        return self._told_from(begin)

    def letters(self):
        """Read letters."""
        begin = self._at
        while (is_sign(self.coming()) and self._at - begin < MOST_LETTERS
               and self.coming() not in self._text[begin:self._at]):
            self._at += 1
        return self._told_from(begin)

    def number_to(self, most):
        """Read a whole number, at most so great, without a nought ahead."""
        begin = self._at
        number = 0
        # Behind a nought that stands first no figure can stand.
        while self._figure_comes() and (number > 0 or self._at == begin):
            longer = number * 10 + int(self.coming())
            if longer > most:
                break
            number = longer
            self._at += 1
        self._told_from(begin)
        return number

    def _figure_comes(self):
        """Tell whether a figure comes."""
        return not self.at_end() and self.coming() in FIGURES

    def _told_from(self, begin):
        """Tell what was read from a place on; refuse it where that is nothing."""
        if self._at == begin:
            raise NoText(begin)
        return self._text[begin:self._at]
