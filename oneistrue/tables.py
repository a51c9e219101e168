"""What a table does in a court: its pulls, its wrong, and whether it is rising."""

from oneistrue.errors import Falling
from oneistrue.hiding import order_of
from oneistrue.kinds import is_table
from oneistrue.leans import lean_of, wrong_for
from oneistrue.quotients import is_less, times, total
from oneistrue.usable import is_lot, need


def fall_in(pairs, table):
    """The first one of the pairs (d, c) with the award of d below that of c, or None."""
    falls = [(d, c) for d, c in pairs if is_less(table[d], table[c])]
    if len(falls) == 0:
        return None
    return falls[0]


def need_rising(court, table):
    """Refuses a table that is not rising."""
    fall = fall_in(order_of(court), table)
    if fall is not None:
        raise Falling(fall[0], fall[1])


def is_rising(court, table):
    need(is_table(len(court), table), "table")
    return fall_in(order_of(court), table) is None


def first_fall(court, table):
    need(is_table(len(court), table), "table")
    return fall_in(order_of(court), table)


def pulls_of(court, table):
    need(is_table(len(court), table), "table")
    return tuple([times((case[0], 1), lean_of(case, award)) for case, award in zip(court, table)])


def wrong_of(court, table):
    need(is_table(len(court), table), "table")
    return total(tuple([times((case[0], 1), wrong_for(case, award)) for case, award in zip(court, table)]))


def pull_of(court, table, lot):
    need(is_table(len(court), table), "table")
    need(is_lot(court, lot), "lot")
    pulls = pulls_of(court, table)
    return total(tuple([pulls[here] for here in lot]))
