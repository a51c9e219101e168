"""Pools, and the steps of the best table."""

from oneistrue.best import best_table
from oneistrue.bundles import hung_by
from oneistrue.hiding import order_of
from oneistrue.quotients import lowest, on_one_bottom
from oneistrue.usable import is_case, need


def pools_of(court):
    best = best_table(court)
    pairs = [(d, c) for d, c in order_of(court) if best[d] == best[c]]
    return hung_by(len(court), pairs)


def pool_at(court, here):
    need(is_case(court, here), "here")
    return [pool for pool in pools_of(court) if here in pool][0]


def steps_of(court):
    tops, bottom = on_one_bottom(best_table(court))
    return tuple([
        (lowest(step, bottom), tuple([here for here, top in enumerate(tops) if top == step]))
        for step in sorted(set(tops))
    ])
