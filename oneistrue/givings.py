"""Further exhibits and other grades, and what they help."""

from oneistrue.best import least_wrong
from oneistrue.changes import put, with_grade
from oneistrue.dealchecker import is_dealing
from oneistrue.forests import pairs_in
from oneistrue.hiding import is_under
from oneistrue.kinds import is_holding
from oneistrue.quotients import minus
from oneistrue.usable import is_side, need


def need_grades(court, side, grades):
    """Refuses what is no side, or no tuple with a number for each case."""
    need(is_side(side), "side")
    need(is_holding(len(court), grades), "grades")


def given(court, side, grades):
    """What with_new tells, unchecked."""
    return tuple([
        put(case, 3, put(case[3], side, case[3][side] + (grade,))) for case, grade in zip(court, grades)
    ])


def with_new(court, side, grades):
    need_grades(court, side, grades)
    return given(court, side, grades)


def new_help(court, side, grades):
    need_grades(court, side, grades)
    return minus(least_wrong(court), least_wrong(given(court, side, grades)))


def pair_cut(dealing, other):
    """The first dispute of the dealing that is no pair of the order of other, a court of as many cases, or None."""
    for d, c in pairs_in(dealing):
        if not is_under(other, d, c):
            return d, c
    return None


def first_cut(court, dealing, side, grades):
    need(is_dealing(court, dealing), "dealing")
    need_grades(court, side, grades)
    return pair_cut(dealing, given(court, side, grades))


def grade_change(court, side, here, exhibit, grade):
    return minus(least_wrong(with_grade(court, side, here, exhibit, grade)), least_wrong(court))
