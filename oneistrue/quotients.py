"""Calculating with quotients, pairs (top, bottom) in lowest terms."""

from math import gcd, lcm

from oneistrue.kinds import is_integer, is_number, is_quotient, is_table
from oneistrue.usable import need


def lowest(top, bottom):
    """The quotient for top / bottom, unchecked; bottom is not 0."""
    shared = gcd(top, bottom)
    if bottom < 0:
        shared = -shared
    return (top // shared, bottom // shared)


def on_one_bottom(quotients):
    """A pair: the tops of the quotients brought to one bottom, and this bottom."""
    bottom = 1
    for quotient in quotients:
        bottom = lcm(bottom, quotient[1])
    return [top * (bottom // own) for top, own in quotients], bottom


def least_one(quotients):
    """The least one by value of some quotients, at least one."""
    tops = on_one_bottom(quotients)[0]
    return quotients[tops.index(min(tops))]


def greatest_one(quotients):
    """The greatest one by value of some quotients, at least one."""
    tops = on_one_bottom(quotients)[0]
    return quotients[tops.index(max(tops))]


def quotient_of(top, bottom):
    need(is_integer(top), "top")
    need(is_integer(bottom) and bottom != 0, "bottom")
    return lowest(top, bottom)


def need_both(one, other):
    need(is_quotient(one), "one")
    need(is_quotient(other), "other")


def plus(one, other):
    need_both(one, other)
    return lowest(one[0] * other[1] + other[0] * one[1], one[1] * other[1])


def minus(one, other):
    need_both(one, other)
    return lowest(one[0] * other[1] - other[0] * one[1], one[1] * other[1])


def times(one, other):
    need_both(one, other)
    return lowest(one[0] * other[0], one[1] * other[1])


def over(one, other):
    need_both(one, other)
    need(other[0] != 0, "other")
    return lowest(one[0] * other[1], one[1] * other[0])


def is_less(one, other):
    need_both(one, other)
    return one[0] * other[1] < other[0] * one[1]


def raised(one, many):
    need(is_quotient(one), "one")
    need(is_number(many), "many")
    top, bottom = 1, 1
    for _ in range(many):
        top, bottom = top * one[0], bottom * one[1]
    return (top, bottom)


def total(quotients):
    need(isinstance(quotients, tuple) and is_table(len(quotients), quotients), "quotients")
    tops, bottom = on_one_bottom(quotients)
    return lowest(sum(tops), bottom)
