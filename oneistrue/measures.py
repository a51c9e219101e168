"""Other measures of wrong, for right awards and awards above 0."""

from oneistrue.best import best_table
from oneistrue.dealchecker import is_dealing
from oneistrue.kinds import is_integer, is_table
from oneistrue.leans import lean_of
from oneistrue.quotients import is_less, minus, raised, times, total
from oneistrue.usable import need


def power_for(case, award, many):
    """The n-wrong of the award at a case, many being n."""
    right = case[1]
    factor = case[2][1] if is_less(award, right) else case[2][0]
    slope = times((many, 1), raised(award, many - 1))
    gap = minus(raised(right, many), raised(award, many))
    return times((factor, 1), minus(gap, times(slope, minus(right, award))))


def gap_by_power(one, other, many):
    """n times the difference of one and other, each raised to n - 1, many being n."""
    return times((many, 1), minus(raised(one, many - 1), raised(other, many - 1)))


def power_bend(case, award, to, many):
    """The n-bend at a case from award to to, many being n."""
    more = minus(power_for(case, to, many), power_for(case, award, many))
    return minus(more, times(gap_by_power(to, award, many), lean_of(case, award)))


def has_rights_above(court):
    return all([case[1][0] > 0 for case in court])


def is_table_above(court, thing):
    """A table of awards above 0."""
    return is_table(len(court), thing) and all([award[0] > 0 for award in thing])


def is_power(thing):
    return is_integer(thing) and thing in (2, 3, 4)


def power_wrong(court, table, many):
    need(has_rights_above(court), "court")
    need(is_table_above(court, table), "table")
    need(is_power(many), "many")
    return total(tuple([
        times((case[0], 1), power_for(case, award, many)) for case, award in zip(court, table)
    ]))


def power_parts(court, dealing, table, many):
    need(has_rights_above(court), "court")
    need(is_dealing(court, dealing), "dealing")
    need(is_table_above(court, table), "table")
    need(is_power(many), "many")
    best = best_table(court)
    bends = tuple([
        times((case[0], 1), power_bend(case, award, to, many)) for case, award, to in zip(court, best, table)
    ])
    gaps = tuple([times(amount, gap_by_power(table[d], table[c], many)) for d, c, amount in dealing])
    return total(bends), total(gaps)
