"""What each side tells in the hearing of a dealing, and how likely."""

from oneistrue.dealchecker import is_dealing
from oneistrue.quotients import over, total
from oneistrue.usable import need

NOUGHT = (0, 1)


def certain_row(size, story):
    """The row of a side that tells this story for certain."""
    return tuple([(1, 1) if spot == story else NOUGHT for spot in range(size)])


def row_of(size, here, amounts):
    """The row in here: chances that go as the amounts, a dict by stories; if it is empty, here for certain."""
    if len(amounts) == 0:
        return certain_row(size, here)
    # The amounts of a case add up to its pull, or to minus it.
    pull = total(tuple([amounts[story] for story in amounts]))
    return tuple([over(amounts.get(spot, NOUGHT), pull) for spot in range(size)])


def plea_rows(court, dealing):
    """What pleas_of tells, unchecked."""
    size = len(court)
    return tuple([row_of(size, t, {c: amount for d, c, amount in dealing if d == t}) for t in range(size)])


def reply_rows(court, dealing):
    """What replies_of tells, unchecked."""
    size = len(court)
    return tuple([row_of(size, t, {d: amount for d, c, amount in dealing if c == t}) for t in range(size)])


def pleas_of(court, dealing):
    need(is_dealing(court, dealing), "dealing")
    return plea_rows(court, dealing)


def replies_of(court, dealing):
    need(is_dealing(court, dealing), "dealing")
    return reply_rows(court, dealing)
