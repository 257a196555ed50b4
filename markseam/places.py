"""Where the signs of a row stand: the pen's way, and hung marks on their seats."""

from markseam.case import HIGHEST_RANK
from markseam.signs import want_word


def seated_ranks(case, row):
    """Tell for each sign of a row the ranks for which it has seats."""
    return {sign: [rank for rank in range(1, HIGHEST_RANK + 1) if case.seat_of(sign, rank) is not None]
            for sign in sorted(set(row))}


def hung_on(case, sign, number, one):
    """Tell where a hung mark stands that is seated on a sign: its number in the row, and where it stands."""
    below, x, y, _ = one
    across, up = case.seat_of(below, case.rank_of(sign))
    foot_across, foot_up = case.foot_of(sign)
    return (sign, x + across - foot_across, y + up - foot_up, number)


def seated(case, row):
    """Tell for each sign of a row where it stands, and the number of the sign that it is seated on."""
    want_word(row)
    ranks = seated_ranks(case, row)
    told = []
    pen = 0
    last = 0
    # By ranks, the nearest sign with a seat: looking back anew for each mark would be slow in long rows.
    nearest = {}
    for number, sign in enumerate(row):
        if not case.is_hung(sign):
            told.append((sign, pen, 0, None))
            last = pen
            pen += case.wide_of(sign)
            nearest = {}
        elif case.rank_of(sign) in nearest:
            seat = nearest[case.rank_of(sign)]
            told.append(hung_on(case, sign, seat, told[seat]))
        else:
            told.append((sign, last, 0, None))
        for rank in ranks[sign]:
            nearest[rank] = number
    return told


def placed(hand, word):
    """Tell where the signs of a word's row stand."""
    return seated(hand.case, hand.row(word))


def width(case, row):
    """Tell where the pen is behind a row."""
    want_word(row)
    return sum([case.wide_of(sign) for sign in row])
