"""What can be read off a court, and the court of some of its cases."""

from oneistrue.quotients import lowest, on_one_bottom
from oneistrue.usable import is_case, is_lot, is_side, need


def weight_of(court, lot):
    need(is_lot(court, lot), "lot")
    return sum([court[here][0] for here in lot])


def holding_of(court, side, here):
    need(is_side(side), "side")
    need(is_case(court, here), "here")
    return court[here][3][side]


def exhibits_of(court, side):
    need(is_side(side), "side")
    return len(court[0][3][side])


def rights_of(court):
    return tuple([case[1] for case in court])


def mean_right(court):
    tops, bottom = on_one_bottom(rights_of(court))
    whole = sum([case[0] for case in court])
    return lowest(sum([case[0] * top for case, top in zip(court, tops)]), bottom * whole)


def is_even(court):
    return all([case[2][0] == case[2][1] for case in court])


def kept(court, lot):
    need(is_lot(court, lot) and len(lot) > 0, "lot")
    return tuple([court[here] for here in lot])
