"""Bounds for awards on what two sides show, from a rising table."""

from oneistrue.kinds import is_number, is_quotient, is_table
from oneistrue.quotients import greatest_one, is_less, least_one
from oneistrue.tables import need_rising
from oneistrue.telling import is_within
from oneistrue.usable import is_showing, need


def need_place(court, table, sight, shown, counter):
    """Refuses the parameters that all functions here share, but for a table that falls."""
    need(is_table(len(court), table), "table")
    need(is_number(sight), "sight")
    need(is_showing(court, 0, shown), "shown")
    need(is_showing(court, 1, counter), "counter")


def low_in(court, table, sight, shown, counter):
    """The low award, or None, unchecked."""
    awards = [
        award for case, award in zip(court, table)
        if case[4] == sight and is_within(case[3][0], shown) and is_within(counter, case[3][1])
    ]
    if len(awards) == 0:
        return None
    return greatest_one(awards)


def high_in(court, table, sight, shown, counter):
    """The high award, or None, unchecked."""
    awards = [
        award for case, award in zip(court, table)
        if case[4] == sight and is_within(shown, case[3][0]) and is_within(case[3][1], counter)
    ]
    if len(awards) == 0:
        return None
    return least_one(awards)


def low_award(court, table, sight, shown, counter):
    need_place(court, table, sight, shown, counter)
    need_rising(court, table)
    return low_in(court, table, sight, shown, counter)


def high_award(court, table, sight, shown, counter):
    need_place(court, table, sight, shown, counter)
    need_rising(court, table)
    return high_in(court, table, sight, shown, counter)


def is_bounded(court, table, sight, shown, counter, award):
    need_place(court, table, sight, shown, counter)
    need(is_quotient(award), "award")
    need_rising(court, table)
    low = low_in(court, table, sight, shown, counter)
    high = high_in(court, table, sight, shown, counter)
    if low is not None and is_less(award, low):
        return False
    return high is None or not is_less(high, award)
