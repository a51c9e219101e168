"""The worth of a choice that both sides make at once, unseen."""

from oneistrue.kinds import is_table
from oneistrue.quotients import greatest_one, least_one, minus, over, plus, times
from oneistrue.usable import need


def is_rows(thing):
    """A tuple of one or two rows, each a tuple of one or two quotients, all of one length."""
    if not isinstance(thing, tuple) or len(thing) not in (1, 2) or not isinstance(thing[0], tuple):
        return False
    return len(thing[0]) in (1, 2) and all([is_table(len(thing[0]), row) for row in thing])


def certain(is_first):
    """The chance of the first one of two if it is, or is not, the one for certain."""
    return (1, 1) if is_first else (0, 1)


def saddle_in(rows):
    """The places (row, column) of all saddles, row by row."""
    return [
        (at, spot) for at, row in enumerate(rows) for spot, entry in enumerate(row)
        if entry == least_one(row) and entry == greatest_one([other[spot] for other in rows])
    ]


def mixed_worth(rows):
    """Worth and chances of two rows of two entries without a saddle."""
    (a, b), (c, d) = rows
    e = minus(plus(a, d), plus(b, c))
    worth = over(minus(times(a, d), times(b, c)), e)
    return worth, over(minus(d, c), e), over(minus(d, b), e)


def unseen_worth(rows):
    need(is_rows(rows), "rows")
    saddles = saddle_in(rows)
    if len(saddles) == 0:
        return mixed_worth(rows)
    at, spot = saddles[0]
    return rows[at][spot], certain(at == 0), certain(spot == 0)
