"""Lots cut at stakes, and at their own levels."""

from oneistrue.best import lots_done, part_above
from oneistrue.kinds import is_quotient, is_table
from oneistrue.lots import outside
from oneistrue.usable import every_case, is_lot, need


def parts_at(court, lot, stake):
    """The pair (above, below) of cut_lot, unchecked."""
    above = part_above(court, lot, stake)
    return above, outside(lot, above)


def cut_lot(court, lot, stake):
    need(is_lot(court, lot) and len(lot) > 0, "lot")
    need(is_quotient(stake), "stake")
    return parts_at(court, lot, stake)


def cut_all(court, stakes):
    need(isinstance(stakes, tuple) and is_table(len(stakes), stakes), "stakes")
    lots = [every_case(court)]
    for stake in stakes:
        lots = [part for lot in lots for part in parts_at(court, lot, stake) if len(part) > 0]
    return tuple(sorted(lots))


def cut_down(court):
    return tuple(sorted(lots_done(court)))
