"""Upper and lower lots."""

from oneistrue.hiding import is_under
from oneistrue.usable import every_case, is_lot, need


def lifted_to(court, lot):
    """The cases that hide under some case of the lot, itself among them."""
    cases = range(len(court))
    return tuple([d for d in cases if any([is_under(court, d, c) for c in lot])])


def sunk_to(court, lot):
    """The cases under which some case of the lot hides, itself among them."""
    cases = range(len(court))
    return tuple([c for c in cases if any([is_under(court, d, c) for d in lot])])


def is_upper(court, lot):
    need(is_lot(court, lot), "lot")
    return lifted_to(court, lot) == lot


def is_lower(court, lot):
    need(is_lot(court, lot), "lot")
    return sunk_to(court, lot) == lot


def upper_of(court, lot):
    need(is_lot(court, lot), "lot")
    return lifted_to(court, lot)


def lower_of(court, lot):
    need(is_lot(court, lot), "lot")
    return sunk_to(court, lot)


def mask_of(lot):
    """The lot as one integer, with the bit of each of its cases set."""
    return sum([1 << here for here in lot])


def lot_of(mask, size):
    """The lot that mask_of turns into this mask."""
    return tuple([here for here in range(size) if mask >> here & 1 == 1])


def outside(lot, part):
    """The cases of lot that are not in the part."""
    return tuple([here for here in lot if here not in part])


def uppers_within(court, lot):
    """The masks of all sets of cases of lot that are upper within lot."""
    masks = [0]
    for here in lot:
        least = mask_of([case for case in lot if is_under(court, case, here)])
        # Each upper set is the union of the least ones with its cases.
        masks = sorted({old | new for old in masks for new in (0, least)})
    return masks


def uppers_of(court):
    size = len(court)
    return tuple(sorted([lot_of(mask, size) for mask in uppers_within(court, every_case(court))]))


def many_lots(court):
    return len(uppers_within(court, every_case(court)))
