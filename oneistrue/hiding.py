"""Which cases hide under which ones."""

from oneistrue.telling import tells
from oneistrue.usable import is_case, need


def is_under(court, here, there):
    """Whether here hides under there, unchecked."""
    return tells(court, 0, here, there) and tells(court, 1, there, here)


def hides(court, here, there):
    need(is_case(court, here), "here")
    need(is_case(court, there), "there")
    return is_under(court, here, there)


def order_of(court):
    cases = range(len(court))
    return tuple([(d, c) for d in cases for c in cases if d != c and is_under(court, d, c)])


def under_of(court, here):
    need(is_case(court, here), "here")
    return tuple([there for there in range(len(court)) if is_under(court, here, there)])


def over_of(court, there):
    need(is_case(court, there), "there")
    return tuple([here for here in range(len(court)) if is_under(court, here, there)])
