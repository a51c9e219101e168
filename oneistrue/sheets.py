"""Sheets of facts, and courts in which the desk sees some of them."""

from oneistrue.changes import put
from oneistrue.kinds import is_numbers, is_set, is_tuple_of
from oneistrue.usable import is_case, need


def is_sheet(court, thing):
    if not is_tuple_of(len(court), thing) or not all([is_numbers(marks) for marks in thing]):
        return False
    return all([len(marks) == len(thing[0]) for marks in thing])


def is_fact_set(sheet, thing):
    """Whether thing is a set of facts of the sheet."""
    return is_set(len(sheet[0]), thing)


def differ(sheet, facts, here, there):
    """What tells_apart tells, unchecked."""
    return any([sheet[here][fact] != sheet[there][fact] for fact in facts])


def court_seen(court, sheet, facts):
    """What opened tells, unchecked."""
    sights = [(case[4], tuple([marks[fact] for fact in facts])) for case, marks in zip(court, sheet)]
    known = sorted(set(sights))
    return tuple([put(case, 4, known.index(sight)) for case, sight in zip(court, sights)])


def opened(court, sheet, facts):
    need(is_sheet(court, sheet), "sheet")
    need(is_fact_set(sheet, facts), "facts")
    return court_seen(court, sheet, facts)


def tells_apart(court, sheet, facts, here, there):
    need(is_sheet(court, sheet), "sheet")
    need(is_fact_set(sheet, facts), "facts")
    need(is_case(court, here), "here")
    need(is_case(court, there), "there")
    return differ(sheet, facts, here, there)
