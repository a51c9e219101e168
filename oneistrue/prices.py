"""What a table costs, beside the best one, and what each dispute does."""

from oneistrue.best import best_table, least_wrong
from oneistrue.dealchecker import is_dealing
from oneistrue.kinds import is_table
from oneistrue.leans import bend_at
from oneistrue.quotients import minus, times, total
from oneistrue.tables import wrong_of
from oneistrue.usable import need


def price_of(court, table):
    need(is_table(len(court), table), "table")
    return minus(wrong_of(court, table), least_wrong(court))


def price_parts(court, dealing, table):
    need(is_dealing(court, dealing), "dealing")
    need(is_table(len(court), table), "table")
    best = best_table(court)
    bends = tuple([
        times((case[0], 1), bend_at(court, here, best[here], table[here])) for here, case in enumerate(court)
    ])
    gaps = tuple([times(amount, minus(table[d], table[c])) for d, c, amount in dealing])
    return total(bends), times((2, 1), total(gaps))


def wrongs_in(court, dealing):
    """What dispute_wrongs tells, unchecked."""
    return tuple([times(amount, minus(court[c][1], court[d][1])) for d, c, amount in dealing])


def dispute_wrongs(court, dealing):
    need(is_dealing(court, dealing), "dealing")
    return wrongs_in(court, dealing)
