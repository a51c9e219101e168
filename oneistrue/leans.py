"""The wrong, the lean and the bend of awards at a case."""

from oneistrue.kinds import is_quotient
from oneistrue.quotients import minus, times
from oneistrue.usable import is_case, need


def lean_of(case, award):
    """The lean of the award at a case, unchecked."""
    gap = minus(award, case[1])
    up, down = case[2]
    factor = up if gap[0] >= 0 else down
    return times((factor, 1), gap)


def wrong_for(case, award):
    """The wrong of the award at a case, unchecked."""
    return times(lean_of(case, award), minus(award, case[1]))


def wrong_at(court, here, award):
    need(is_case(court, here), "here")
    need(is_quotient(award), "award")
    return wrong_for(court[here], award)


def lean_at(court, here, award):
    need(is_case(court, here), "here")
    need(is_quotient(award), "award")
    return lean_of(court[here], award)


def bend_at(court, here, award, to):
    need(is_case(court, here), "here")
    need(is_quotient(award), "award")
    need(is_quotient(to), "to")
    case = court[here]
    more = minus(wrong_for(case, to), wrong_for(case, award))
    return minus(more, times((2, 1), times(minus(to, award), lean_of(case, award))))
