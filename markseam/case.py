"""Cases: which signs are marks, and the measures of signs; and a word's clusters."""

from markseam.errors import NoCase
from markseam.signs import is_sign, want_word
from markseam.whole import is_within

HIGHEST_RANK = 9
WIDEST = 1000
USUAL_WIDTH = 500
FARTHEST = 1000
USUAL_FOOT = (0, 0)


def pairs_of(table, what):
    """Tell the keys of a dict with their values, none of None; refuse what is neither."""
    if table is None:
        return []
    if not isinstance(table, dict):
        raise NoCase(what)
    return list(table.items())


def is_point(thing):
    """Tell whether a thing is a tuple (x, y) as feet and seats are."""
    if not isinstance(thing, tuple) or len(thing) != 2:
        return False
    return all([is_within(number, -FARTHEST, FARTHEST) for number in thing])


def is_hung_by(sign, ranks):
    """Tell whether a sign is a hung mark by such ranks."""
    return ranks.get(sign, 0) > 0


def is_seat_key(thing):
    """Tell whether a thing is a tuple of a sign and the rank of a hung mark."""
    if not isinstance(thing, tuple) or len(thing) != 2:
        return False
    return is_sign(thing[0]) and is_within(thing[1], 1, HIGHEST_RANK)


def kept_ranks(ranks):
    """Tell the ranks that a case keeps."""
    pairs = pairs_of(ranks, "ranks")
    for sign, rank in pairs:
        if not is_sign(sign) or not is_within(rank, 0, HIGHEST_RANK):
            raise NoCase("ranks")
    return {sign: rank for sign, rank in pairs}


def kept_wide(wide, ranks):
    """Tell the widths that a case keeps; the usual one is left out, so that equal cases keep the same."""
    pairs = pairs_of(wide, "wide")
    for sign, many in pairs:
        if not is_sign(sign) or is_hung_by(sign, ranks) or not is_within(many, 0, WIDEST):
            raise NoCase("wide")
    return {sign: many for sign, many in pairs if many != USUAL_WIDTH}


def kept_feet(feet, ranks):
    """Tell the feet that a case keeps; the usual one is left out, so that equal cases keep the same."""
    pairs = pairs_of(feet, "feet")
    for sign, foot in pairs:
        if not is_sign(sign) or not is_hung_by(sign, ranks) or not is_point(foot):
            raise NoCase("feet")
    return {sign: foot for sign, foot in pairs if foot != USUAL_FOOT}


def kept_seats(seats):
    """Tell the seats that a case keeps."""
    pairs = pairs_of(seats, "seats")
    for key, seat in pairs:
        if not is_seat_key(key) or not is_point(seat):
            raise NoCase("seats")
    return {key: seat for key, seat in pairs}


class Case:
    """Which signs are marks, of which ranks, and how wide signs are, where marks stand and sit."""

    def __init__(self, ranks=None, wide=None, feet=None, seats=None):
        self._ranks = kept_ranks(ranks)
        self._wide = kept_wide(wide, self._ranks)
        self._feet = kept_feet(feet, self._ranks)
        self._seats = kept_seats(seats)

    def rank_of(self, sign):
        """Tell a mark's rank, None of a base."""
        return self._ranks.get(sign)

    def is_base(self, sign):
        """Tell whether a sign is a base."""
        return sign not in self._ranks

    def is_hung(self, sign):
        """Tell whether a sign is a hung mark."""
        return is_hung_by(sign, self._ranks)

    def wide_of(self, sign):
        """Tell a sign's width."""
        if self.is_hung(sign):
            return 0
        return self._wide.get(sign, USUAL_WIDTH)

    def foot_of(self, sign):
        """Tell a sign's foot."""
        return self._feet.get(sign, USUAL_FOOT)

    def seat_of(self, sign, rank):
        """Tell the seat that a sign has for marks of a rank, None where it has none."""
        return self._seats.get((sign, rank))

    def __len__(self):
        return len(self._ranks)

    def __eq__(self, other):
        return (isinstance(other, Case) and self._ranks == other._ranks and self._wide == other._wide
                and self._feet == other._feet and self._seats == other._seats)

    def __str__(self):
        if len(self._ranks) == 0:
            return "none"
        return " ".join([f"{sign}{self._ranks[sign]}" for sign in sorted(self._ranks)])


def clusters(case, word):
    """Tell each cluster of a word as (begin, end)."""
    want_word(word)
    begins = [at for at, sign in enumerate(word) if at == 0 or case.is_base(sign)]
    ends = begins[1:] + [len(word)]
    return list(zip(begins, ends))
