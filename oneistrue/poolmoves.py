"""Whether two courts have the same pools, and the table of the levels of lots."""

from oneistrue.kinds import is_ascending
from oneistrue.levels import level_in
from oneistrue.orders import need_as_many
from oneistrue.pools import pools_of
from oneistrue.usable import every_case, is_lot, need


def same_pools(court, other):
    need_as_many(court, other)
    return pools_of(court) == pools_of(other)


def is_parts(court, thing):
    """A set of lots, none of them (), with each case in exactly one."""
    if not isinstance(thing, tuple) or not all([is_lot(court, lot) and len(lot) > 0 for lot in thing]):
        return False
    cases = sorted([here for lot in thing for here in lot])
    return is_ascending(thing) and tuple(cases) == every_case(court)


def pool_table(court, lots):
    need(is_parts(court, lots), "lots")
    awards = {}
    for lot in lots:
        level = level_in(court, lot)
        for here in lot:
            awards[here] = level
    return tuple([awards[case] for case in every_case(court)])
