"""By how much opened facts, exhibits and sights make the least wrong less."""

from oneistrue.best import least_wrong
from oneistrue.changes import put
from oneistrue.exhibits import left_out
from oneistrue.quotients import greatest_one, minus
from oneistrue.sheets import court_seen, is_fact_set, is_sheet
from oneistrue.usable import need


def opening_in(court, sheet, facts):
    """What opening_help tells, unchecked."""
    return minus(least_wrong(court), least_wrong(court_seen(court, sheet, facts)))


def opening_help(court, sheet, facts):
    need(is_sheet(court, sheet), "sheet")
    need(is_fact_set(sheet, facts), "facts")
    return opening_in(court, sheet, facts)


def exhibit_help(court, side, exhibit):
    return minus(least_wrong(left_out(court, side, exhibit)), least_wrong(court))


def sight_help(court):
    blind = tuple([put(case, 4, 0) for case in court])
    return minus(least_wrong(blind), least_wrong(court))


def best_fact(court, sheet):
    need(is_sheet(court, sheet), "sheet")
    helps = [opening_in(court, sheet, (fact,)) for fact in range(len(sheet[0]))]
    if len(helps) == 0:
        return None
    return helps.index(greatest_one(helps))
