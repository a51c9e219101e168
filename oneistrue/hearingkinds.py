"""Whether a thing is a row of chances, or a hearing."""

from oneistrue.kinds import is_quotient, is_table, is_tuple_of
from oneistrue.quotients import total
from oneistrue.telling import tellers_of, tells
from oneistrue.usable import is_case, is_side, need


def is_row(court, side, here, thing):
    need(is_side(side), "side")
    need(is_case(court, here), "here")
    if not is_table(len(court), thing) or total(thing) != (1, 1):
        return False
    if any([chance[0] < 0 for chance in thing]):
        return False
    return all([chance[0] == 0 or tells(court, side, here, story) for story, chance in enumerate(thing)])


def are_rows(court, side, thing):
    """A row of this side for each case."""
    if not is_tuple_of(len(court), thing):
        return False
    return all([is_row(court, side, here, row) for here, row in enumerate(thing)])


def is_award(court, plea, reply, thing):
    """A quotient if the pair can be told, else None."""
    if len(tellers_of(court, plea, reply)) == 0:
        return thing is None
    return is_quotient(thing)


def are_awards(court, thing):
    """An award, or None, for each plea and each reply."""
    size = len(court)
    if not is_tuple_of(size, thing) or not all([is_tuple_of(size, row) for row in thing]):
        return False
    return all([
        is_award(court, plea, reply, award) for plea, row in enumerate(thing) for reply, award in enumerate(row)
    ])


def is_hearing(court, thing):
    if not is_tuple_of(3, thing):
        return False
    pleas, replies, awards = thing
    return are_rows(court, 0, pleas) and are_rows(court, 1, replies) and are_awards(court, awards)
