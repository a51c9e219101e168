"""The best table between two awards, and courts with all right awards moved."""

from oneistrue.best import best_table
from oneistrue.changes import put
from oneistrue.kinds import is_quotient
from oneistrue.quotients import greatest_one, is_less, least_one, plus, times
from oneistrue.usable import need


def need_limits(least, most):
    """Refuses what are no two awards, the second one at least the first one."""
    need(is_quotient(least), "least")
    need(is_quotient(most) and not is_less(most, least), "most")


def cut_between(table, least, most):
    """The table with least where an award is below it, and most where it is above, unchecked."""
    return tuple([greatest_one((least, least_one((most, award)))) for award in table])


def best_between(court, least, most):
    need_limits(least, most)
    return cut_between(best_table(court), least, most)


def shifted(court, by):
    need(is_quotient(by), "by")
    return tuple([put(case, 1, plus(case[1], by)) for case in court])


def scaled(court, by):
    need(is_quotient(by) and by[0] > 0, "by")
    return tuple([put(case, 1, times(case[1], by)) for case in court])
