"""Pages: texts that are changed, and shaped anew only between places at which their rows part."""

from markseam.errors import NoPlace, NoRule, TooMuch
from markseam.least import machine_of
from markseam.order import ordered
from markseam.script import Script
from markseam.seams import seams_by_least
from markseam.signs import want_word, want_word_of
from markseam.whole import is_within

LONGEST_TEXT = 60


def want_fitting(many):
    """Refuse more letters than a page may have."""
    if many > LONGEST_TEXT:
        raise TooMuch(LONGEST_TEXT)


def want_place(at, length):
    """Refuse what is no place of a text, its end counted."""
    if not is_within(at, 0, length):
        raise NoPlace(at)


class Page:
    """A text that is changed, and shaped by a Script."""

    def __init__(self, hand, letters, text=""):
        want_word_of(text, letters)
        want_fitting(len(text))
        self._machine = machine_of(hand.shaper, letters)
        self._hand = Script(hand.case, hand.shaper)
        self._letters = letters
        self._text = text
        # For each deed what leads it back: where, how many letters go out, and which come in.
        self._deeds = []

    def text(self):
        """Tell the letters that stand on the page."""
        return self._text

    def row(self):
        """Tell the row of the letters."""
        return self._hand.row(self._text)

    def places(self):
        """Tell the places at which the row parts, whatever follows."""
        text = self._text
        case = self._hand.case
        shown, _ = ordered(case, text)
        # Up to an end of a cluster the ordered text is that of these letters alone.
        ends = [at == len(text) or case.is_base(text[at]) for at in range(len(text) + 1)]
        return [0] + [at for at in seams_by_least(self._machine, shown) if at > 0 and ends[at]]

    def pieces(self):
        """Tell the letters between neighbouring places, and their rows."""
        cuts = self.places() + [len(self._text)]
        return [(begin, end, self._hand.row(self._text[begin:end]))
                for begin, end in zip(cuts, cuts[1:]) if begin < end]

    def _change(self, at, many, word):
        """Put a word in for so many letters from a place on; tell the stretch."""
        places = self.places()
        tails = [len(self._text) - place for place in places]
        self._text = self._text[:at] + word + self._text[at + many:]
        length = len(self._text)
        fresh = self.places()
        begin = max([place for place in fresh if place <= at and place in places])
        ends = [place for place in fresh if place >= at + len(word) and length - place in tails]
        return (begin, min(ends, default=length))

    def _do(self, at, many, word):
        """Change the text as asked for, so that it can be taken back."""
        self._deeds.append((at, len(word), self._text[at:at + many]))
        return self._change(at, many, word)

    def put(self, at, word):
        """Put the letters of a word in at a place; tell the stretch."""
        want_place(at, len(self._text))
        want_word(word, self._letters)
        want_fitting(len(self._text) + len(word))
        return self._do(at, 0, word)

    def cut(self, at, many):
        """Take so many letters from a place on out; tell the stretch."""
        want_place(at, len(self._text))
        want_place(many, len(self._text) - at)
        return self._do(at, many, "")

    def parted_at(self, at):
        """Break the page; tell a new one of the letters from a place on, and where stretches begin and end.

        The begin is one of this page, the end one of the new page.
        """
        want_place(at, len(self._text))
        places = self.places()
        page = Page(self._hand, self._letters, self._text[at:])
        ends = [place for place in page.places() if at + place in places]
        begin, _ = self._do(at, len(page), "")
        return (page, begin, min(ends, default=len(page)))

    def took_in(self, other):
        """Put the letters of a page in at the end; tell the stretch."""
        return self.put(len(self._text), other.text())

    def undo(self):
        """Take the last deed back that was not taken back yet; tell the stretch."""
        if len(self._deeds) == 0:
            raise NoRule("undo")
        at, many, word = self._deeds.pop()
        return self._change(at, many, word)

    def twin(self):
        """Tell a page by itself with the same text, that can take the same back."""
        page = Page(self._hand, self._letters, self._text)
        page._deeds = list(self._deeds)
        return page

    def __len__(self):
        return len(self._text)

    def __eq__(self, other):
        return isinstance(other, Page) and self.text() == other.text() and self.row() == other.row()

    def __str__(self):
        return f"{self.text()} {self.row()}"
