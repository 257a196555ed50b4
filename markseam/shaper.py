"""Shapers: passes one behind the other, and where each sign of a row comes from."""

from markseam.errors import NoPlace, NoRule, TooMuch
from markseam.passes import Pass
from markseam.signs import want_letters, want_word
from markseam.whole import is_within

MOST_PASSES = 4


def kept_passes(passes):
    """Tell the passes that a Shaper keeps; refuse what is none of them."""
    if passes is None:
        return []
    if not isinstance(passes, list) or len(passes) > MOST_PASSES:
        raise NoRule("passes")
    if not all([isinstance(one, Pass) for one in passes]):
        raise NoRule("passes")
    return list(passes)


def want_number(number, many):
    """Refuse what is no number of one of so many."""
    if not is_within(number, 0, many - 1):
        raise NoPlace(number)


def written_by(steps):
    """Tell the text that the steps of a pass write."""
    return "".join([put for at, number, many, put in steps])


def led_on(steps, led):
    """Tell for each sign that the steps write where it leads, by where the signs they take lead."""
    told = []
    for at, _, many, put in steps:
        places = sorted({place for taken in led[at:at + many] for place in taken})
        told.extend([places] * len(put))
    return told


class Shaper:
    """Passes that go over a word, one behind the other."""

    def __init__(self, passes=None):
        self._passes = kept_passes(passes)

    def passes(self):
        """Tell the passes."""
        return list(self._passes)

    def row(self, word):
        """Tell the word's row."""
        want_word(word)
        text = word
        for one in self._passes:
            text = one.row(text)
        return text

    def glyphs(self, word):
        """Tell each sign of the row, and the places of the word to which it leads."""
        want_word(word)
        text = word
        led = [[place] for place in range(len(word))]
        for one in self._passes:
            steps = one.steps(text)
            text = written_by(steps)
            led = led_on(steps, led)
        # Signs of one step share a list so far; what is told must be the asker's own.
        return [(sign, list(places)) for sign, places in zip(text, led)]

    def signs_of(self, word, place):
        """Tell the numbers, in the row, of the signs that lead to a place of the word."""
        want_word(word)
        want_number(place, len(word))
        return [number for number, glyph in enumerate(self.glyphs(word)) if place in glyph[1]]

    def trail(self, word):
        """Tell for each pass where its steps begin, and which rules fitted there."""
        want_word(word)
        told = []
        text = word
        for one in self._passes:
            steps = one.steps(text)
            text = written_by(steps)
            told.append([(at, number) for at, number, many, put in steps])
        return told

    def without(self, at, number):
        """Tell the Shaper without one rule of one pass."""
        want_number(at, len(self._passes))
        rules = self._passes[at].rules()
        want_number(number, len(rules))
        del rules[number]
        passes = list(self._passes)
        passes[at] = Pass(rules)
        return Shaper(passes)

    def exchanged(self, at):
        """Tell the Shaper in which a pass and the one behind it have changed places."""
        want_number(at, len(self._passes) - 1)
        passes = list(self._passes)
        passes[at], passes[at + 1] = passes[at + 1], passes[at]
        return Shaper(passes)

    def then(self, other):
        """Tell the Shaper of these passes, and behind them those of the other one."""
        passes = self._passes + other.passes()
        if len(passes) > MOST_PASSES:
            raise TooMuch(len(passes))
        return Shaper(passes)

    def signs(self, letters):
        """Tell all signs that are letters or that some rule writes, sorted."""
        want_letters(letters)
        put = [rule.put() for one in self._passes for rule in one.rules()]
        return "".join(sorted(set(letters + "".join(put))))

    def __len__(self):
        return len(self._passes)

    def __eq__(self, other):
        return isinstance(other, Shaper) and self._passes == other._passes
