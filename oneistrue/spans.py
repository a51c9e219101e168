"""How far a right award or a weight may move so that the pools stay the same."""

from oneistrue.best import best_table
from oneistrue.hiding import order_of
from oneistrue.kinds import is_quotient, is_tuple_of
from oneistrue.leans import lean_of
from oneistrue.levels import level_in
from oneistrue.lots import lot_of, outside, uppers_within
from oneistrue.pools import pool_at
from oneistrue.quotients import greatest_one, is_less, least_one, minus, over, plus
from oneistrue.strains import strain_of
from oneistrue.usable import is_case, need

NOUGHT = (0, 1)
ABOVE_NOUGHT = ((0, 1), False)


def is_end(thing):
    """None, or a pair (quotient, within)."""
    if thing is None:
        return True
    return is_tuple_of(2, thing) and is_quotient(thing[0]) and (thing[1] is True or thing[1] is False)


def is_span(thing):
    return is_tuple_of(2, thing) and is_end(thing[0]) and is_end(thing[1])


def in_span(span, award):
    need(is_span(span), "span")
    need(is_quotient(award), "award")
    lower, upper = span
    if lower is not None and not is_less(lower[0], award) and lower != (award, True):
        return False
    return upper is None or is_less(award, upper[0]) or upper == (award, True)


def narrowest(ends, award):
    """The end at this award of the span that lies in all spans with one of the ends."""
    return award, all([within for told, within in ends if told == award])


def outer_ends(court, pool):
    """Two lists: lower and upper ends of awards with which the pool stays apart from the others."""
    best = best_table(court)
    pairs = order_of(court)
    lowers = [(best[c], False) for d, c in pairs if d in pool and c not in pool]
    uppers = [(best[d], False) for d, c in pairs if c in pool and d not in pool]
    return lowers, uppers


def inner_ends(court, pool, here):
    """Two lists: lower and upper ends of awards with which the pool is not parted, told by lots without here."""
    lots = [lot_of(mask, len(court)) for mask in uppers_within(court, pool)]
    # An upper lot must not have a level above the award, what it leaves must not have one below it.
    firsts = [lot for lot in lots if here not in lot and len(lot) > 0]
    rests = [outside(pool, lot) for lot in lots if here in lot and len(lot) < len(pool)]
    return [(level_in(court, lot), True) for lot in firsts], [(level_in(court, rest), True) for rest in rests]


def award_span(court, pool, here):
    """The span of the awards that the pool may have, whatever right award or weight of here brings them."""
    outer, inner = outer_ends(court, pool), inner_ends(court, pool, here)
    lowers, uppers = outer[0] + inner[0], outer[1] + inner[1]
    lower, upper = None, None
    if len(lowers) > 0:
        lower = narrowest(lowers, greatest_one([award for award, _ in lowers]))
    if len(uppers) > 0:
        upper = narrowest(uppers, least_one([award for award, _ in uppers]))
    return lower, upper


def right_end(case, rest, end):
    """The right award of the case that makes the end's award the level, beside the strain rest of all others there."""
    award, within = end
    up, down = case[2]
    factor = down if rest[0] > 0 else up
    return plus(award, over(rest, (case[0] * factor, 1))), within


def weight_end(case, rest, end):
    """The weight of the case that does so; its right award is not the end's award."""
    award, within = end
    return over(minus(NOUGHT, rest), lean_of(case, award)), within


def right_span(court, here):
    need(is_case(court, here), "here")
    pool = pool_at(court, here)
    others = outside(pool, (here,))
    ends = award_span(court, pool, here)
    # The more the right award, the more is the level, without any bound; so end goes to end.
    return tuple([
        None if end is None else right_end(court[here], strain_of(court, others, end[0]), end) for end in ends
    ])


def weight_ends(court, others, here, ends):
    """Ends of weights from ends of awards; None for those that no weight comes to."""
    start, goal = level_in(court, others), court[here][1]
    lesser, greater = least_one([start, goal]), greatest_one([start, goal])
    return [
        weight_end(court[here], strain_of(court, others, end[0]), end)
        if end is not None and is_less(lesser, end[0]) and is_less(end[0], greater) else None
        for end in ends
    ]


def weight_span(court, here):
    need(is_case(court, here), "here")
    pool = pool_at(court, here)
    others = outside(pool, (here,))
    if len(others) == 0:
        return ABOVE_NOUGHT, None
    lower, upper = weight_ends(court, others, here, award_span(court, pool, here))
    # The more the weight, the nearer is the level to the right award, from that of the others on.
    if is_less(court[here][1], level_in(court, others)):
        lower, upper = upper, lower
    if lower is None:
        lower = ABOVE_NOUGHT
    return lower, upper
