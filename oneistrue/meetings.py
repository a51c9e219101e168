"""Courts in which two cases meet at one half."""

from oneistrue.hiding import is_under
from oneistrue.usable import is_case, need


def is_meeting(court, here, there):
    return here != there and is_under(court, here, there)


def right_at(case, here, there):
    """The right award of a case where here and there meet."""
    if case == here:
        return (0, 1)
    if case == there:
        return (1, 1)
    return (1, 2)


def meeting(court, here, there):
    need(is_case(court, here), "here")
    need(is_case(court, there) and is_meeting(court, here, there), "there")
    return tuple([
        (1, right_at(spot, here, there), (1, 1), case[3], case[4]) for spot, case in enumerate(court)
    ])


def may_meet(court, here, there):
    need(is_case(court, here), "here")
    need(is_case(court, there), "there")
    return is_meeting(court, here, there)
