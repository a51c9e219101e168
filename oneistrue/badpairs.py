"""Bad pairs: a case that hides under one with a greater right award."""

from oneistrue.hiding import order_of
from oneistrue.quotients import is_less


def bad_pairs(court):
    return tuple([(d, c) for d, c in order_of(court) if is_less(court[d][1], court[c][1])])


def is_right(court):
    return len(bad_pairs(court)) == 0


def first_bad(court):
    pairs = bad_pairs(court)
    if len(pairs) == 0:
        return None
    return pairs[0]
