"""Two courts' orders compared, and what tells them apart."""

from oneistrue.courtchecker import is_court
from oneistrue.errors import InvalidPaper
from oneistrue.hiding import order_of
from oneistrue.kinds import is_table, is_tuple_of
from oneistrue.lots import lifted_to
from oneistrue.quotients import is_less
from oneistrue.tables import fall_in
from oneistrue.usable import is_case, need


def need_as_many(court, other):
    need(is_court(other) and len(other) == len(court), "other")


def same_order(court, other):
    need_as_many(court, other)
    return order_of(court) == order_of(other)


def pairs_of_one(court, other):
    """The pairs of exactly one of both orders, ascending."""
    ours, theirs = order_of(court), order_of(other)
    return sorted([pair for pair in ours if pair not in theirs] + [pair for pair in theirs if pair not in ours])


def parting(court, other):
    need_as_many(court, other)
    pairs = pairs_of_one(court, other)
    if len(pairs) == 0:
        return None
    here, there = pairs[0]
    lacking = other if pairs[0] in order_of(court) else court
    # This lot is upper there, and has there in it, but not here.
    lot = lifted_to(lacking, (there,))
    rights = tuple([(1, 1) if case in lot else (0, 1) for case in range(len(court))])
    return here, there, rights


def lets_parting(court, other, thing):
    need_as_many(court, other)
    if not is_tuple_of(3, thing):
        raise InvalidPaper("shape", -1)
    here, there, rights = thing
    if not is_case(court, here) or not is_case(court, there):
        raise InvalidPaper("pair", 0)
    if (here, there) not in pairs_of_one(court, other):
        raise InvalidPaper("pair", 0)
    lacks = 1 if (here, there) in order_of(court) else 0
    lacking = other if lacks == 1 else court
    if not is_table(len(court), rights) or not is_less(rights[here], rights[there]):
        raise InvalidPaper("rights", 2)
    if fall_in(order_of(lacking), rights) is not None:
        raise InvalidPaper("rights", 2)
    return lacks
