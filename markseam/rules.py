"""Rules: what signs become, beside which others."""

from markseam.errors import NoRule
from markseam.signs import SIGNS, are_signs, are_unlike_signs, last_signs

EDGE = "|"
MOST_TAKEN = 3
MOST_PUT = 3
MOST_BESIDE = 2


def is_place(thing):
    """Tell whether a thing is a place."""
    return are_unlike_signs(thing, len(SIGNS))


def is_edge(thing):
    """Tell whether a thing is the edge."""
    return isinstance(thing, str) and thing == EDGE


def are_places(things):
    """Tell whether all of a list's things are places."""
    return all([is_place(thing) for thing in things])


def is_beside(things):
    """Tell whether a thing is a list that behind or ahead may be, but for an edge in it."""
    return isinstance(things, list) and len(things) <= MOST_BESIDE


def is_behind(things):
    """Tell whether a thing may be behind: the edge may stand first."""
    if not is_beside(things):
        return False
    return are_places(things[1:] if things and is_edge(things[0]) else things)


def is_ahead(things):
    """Tell whether a thing may be ahead: the edge may stand last."""
    if not is_beside(things):
        return False
    return are_places(things[:-1] if things and is_edge(things[-1]) else things)


def want_parts(what, becomes, behind, ahead):
    """Refuse what no Rule can be made of."""
    if not isinstance(what, list) or not 1 <= len(what) <= MOST_TAKEN or not are_places(what):
        raise NoRule("what")
    if not are_signs(becomes, 0, MOST_PUT):
        raise NoRule("becomes")
    if behind is not None and not is_behind(behind):
        raise NoRule("behind")
    if ahead is not None and not is_ahead(ahead):
        raise NoRule("ahead")


def sorted_places(places):
    """Tell the places with the signs of each one sorted; no places, where it is None."""
    if places is None:
        return []
    return ["".join(sorted(place)) for place in places]


def stand_in(signs, places):
    """Tell whether each of the signs stands in its place, with none left and no place empty."""
    return len(signs) == len(places) and all([sign in place for sign, place in zip(signs, places)])


def dotted(places):
    """Tell places as a Rule's text has them."""
    return ".".join(places)


class Rule:
    """What the signs in its places become, between those behind and those ahead."""

    def __init__(self, what, becomes, behind=None, ahead=None):
        want_parts(what, becomes, behind, ahead)
        self._what = sorted_places(what)
        self._becomes = becomes
        self._behind = sorted_places(behind)
        self._ahead = sorted_places(ahead)

    def fits(self, written, waiting):
        """Tell whether the rule fits between what was written and what waits."""
        # A text's end is shown by the edge's own sign, which stands in the edge's place alone.
        front = self._what + self._ahead
        coming = (waiting[:len(front)] + EDGE)[:len(front)]
        gone = last_signs(EDGE + last_signs(written, len(self._behind)), len(self._behind))
        return stand_in(coming, front) and stand_in(gone, self._behind)

    def takes(self):
        """Tell how many signs the rule takes."""
        return len(self._what)

    def reach(self):
        """Tell how many places what and ahead have together."""
        return len(self._what) + len(self._ahead)

    def back(self):
        """Tell how many places behind has."""
        return len(self._behind)

    def put(self):
        """Tell what the rule writes."""
        return self._becomes

    def __eq__(self, other):
        return (isinstance(other, Rule) and self._what == other._what and self._becomes == other._becomes
                and self._behind == other._behind and self._ahead == other._ahead)

    def __str__(self):
        return f"{dotted(self._behind)}/{dotted(self._what)}/{dotted(self._ahead)}>{self._becomes}"
