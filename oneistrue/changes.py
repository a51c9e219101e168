"""A court with one value changed."""

from oneistrue.courtchecker import is_factors
from oneistrue.kinds import is_number, is_positive, is_quotient
from oneistrue.usable import is_case, is_exhibit, is_side, need


def put(row, at, part):
    """The tuple with this part at the place at."""
    return row[:at] + (part,) + row[at + 1:]


def with_part(court, here, at, part):
    """The court with this part of the case here, unchecked."""
    return put(court, here, put(court[here], at, part))


def with_weight(court, here, weight):
    need(is_case(court, here), "here")
    need(is_positive(weight), "weight")
    return with_part(court, here, 0, weight)


def with_right(court, here, right):
    need(is_case(court, here), "here")
    need(is_quotient(right), "right")
    return with_part(court, here, 1, right)


def with_factors(court, here, factors):
    need(is_case(court, here), "here")
    need(is_factors(factors), "factors")
    return with_part(court, here, 2, factors)


def with_grade(court, side, here, exhibit, grade):
    need(is_side(side), "side")
    need(is_case(court, here), "here")
    need(is_exhibit(court, side, exhibit), "exhibit")
    need(is_number(grade), "grade")
    holdings = court[here][3]
    return with_part(court, here, 3, put(holdings, side, put(holdings[side], exhibit, grade)))


def with_sight(court, here, sight):
    need(is_case(court, here), "here")
    need(is_number(sight), "sight")
    return with_part(court, here, 4, sight)
