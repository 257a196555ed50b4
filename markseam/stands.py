"""Stands: what a shaper keeps while it is fed sign by sign."""

from markseam.errors import NoWord, TooMuch
from markseam.signs import is_sign, is_text, last_signs, want_letters

MOST_STANDS = 200


class Feeder:
    """A shaper that is fed. A step that was made once is known from then on."""

    def __init__(self, shaper):
        self._passes = shaper.passes()
        self._reaches = [one.reach() for one in self._passes]
        self._backs = [one.back() for one in self._passes]
        self._known = {}

    def step_of(self, at, written, waiting):
        """Tell how many signs the pass of a number takes, and what it writes."""
        # No rule looks farther than the reach, so what waits behind it makes no other step.
        key = (at, written, waiting[:self._reaches[at]])
        if key not in self._known:
            _, many, put = self._passes[at].step(written, waiting)
            self._known[key] = (many, put)
        return self._known[key]

    def moved(self, at, pair, least):
        """Tell what a pass writes as long as at least so many signs wait, and its pair then."""
        written, waiting = pair
        told = []
        while len(waiting) >= least:
            many, put = self.step_of(at, written, waiting)
            told.append(put)
            written = last_signs(written + put, self._backs[at])
            waiting = waiting[many:]
        return ("".join(told), (written, waiting))

    def fed(self, stand, sign):
        """Tell what is told when a sign comes, and the stand then."""
        coming = sign
        pairs = []
        for at, (written, waiting) in enumerate(stand):
            coming, pair = self.moved(at, (written, waiting + coming), self._reaches[at])
            pairs.append(pair)
        return (coming, tuple(pairs))

    def ended(self, stand):
        """Tell what is told when no sign comes any more."""
        coming = ""
        for at, (written, waiting) in enumerate(stand):
            coming, _ = self.moved(at, (written, waiting + coming), 1)
        return coming


def is_pair(one, thing):
    """Tell whether a thing may be what a stand has for a pass."""
    if not isinstance(thing, tuple) or len(thing) != 2:
        return False
    written, waiting = thing
    if not is_text(written) or not is_text(waiting):
        return False
    return len(written) <= one.back() and len(waiting) < one.reach()


def is_stand(shaper, thing):
    """Tell whether a thing is a stand of the shaper."""
    passes = shaper.passes()
    if not isinstance(thing, tuple) or len(thing) != len(passes):
        return False
    return all([is_pair(one, pair) for one, pair in zip(passes, thing)])


def start(shaper):
    """Tell the stand ahead of any sign."""
    return tuple([("", "") for _ in shaper.passes()])


def fed(shaper, stand, sign):
    """Tell what the shaper tells when a sign comes, and its stand then."""
    if not is_sign(sign):
        raise NoWord(0)
    return Feeder(shaper).fed(stand, sign)


def ended(shaper, stand):
    """Tell what the shaper tells when no sign comes any more."""
    return Feeder(shaper).ended(stand)


def stands_of(shaper, letters):
    """Tell all stands to which words of the letters lead, with their ends and ways."""
    want_letters(letters)
    feeder = Feeder(shaper)
    stands = [start(shaper)]
    numbers = {stands[0]: 0}
    told = []
    # Stands come to be known in the order of their first words, as they are gone through in it.
    while len(told) < len(stands):
        stand = stands[len(told)]
        ways = []
        for letter in letters:
            text, goal = feeder.fed(stand, letter)
            if goal not in numbers:
                if len(stands) == MOST_STANDS:
                    raise TooMuch(MOST_STANDS)
                numbers[goal] = len(stands)
                stands.append(goal)
            ways.append((text, numbers[goal]))
        told.append((stand, feeder.ended(stand), ways))
    return told
