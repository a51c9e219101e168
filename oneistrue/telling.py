"""Which stories a side can tell in a case."""

from oneistrue.kinds import is_holding, is_numbers
from oneistrue.usable import is_case, is_side, need


def is_within(one, other):
    """Whether one holding is within another one, unchecked."""
    for grade, bound in zip(one, other):
        if grade > bound:
            return False
    return True


def tells(court, side, here, there):
    """Whether in here the side can tell there, unchecked."""
    if court[here][4] != court[there][4]:
        return False
    return is_within(court[there][3][side], court[here][3][side])


def holding_within(one, other):
    need(is_numbers(one), "one")
    need(is_holding(len(one), other), "other")
    return is_within(one, other)


def can_tell(court, side, here, there):
    need(is_side(side), "side")
    need(is_case(court, here), "here")
    need(is_case(court, there), "there")
    return tells(court, side, here, there)


def stories_of(court, side, here):
    need(is_side(side), "side")
    need(is_case(court, here), "here")
    return tuple([story for story in range(len(court)) if tells(court, side, here, story)])


def tellers_of(court, plea, reply):
    need(is_case(court, plea), "plea")
    need(is_case(court, reply), "reply")
    cases = range(len(court))
    return tuple([here for here in cases if tells(court, 0, here, plea) and tells(court, 1, here, reply)])
