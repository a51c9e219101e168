"""Strains of lots at a stake, and the upper lots that have the least one."""

from oneistrue.best import best_table, least_strained
from oneistrue.kinds import is_quotient
from oneistrue.leans import lean_of
from oneistrue.lots import lot_of
from oneistrue.quotients import is_less, times, total
from oneistrue.usable import every_case, is_lot, need


def strain_of(court, lot, stake):
    need(is_lot(court, lot), "lot")
    need(is_quotient(stake), "stake")
    return total(tuple([times((court[here][0], 1), lean_of(court[here], stake)) for here in lot]))


def smallest_lot(court, stake):
    need(is_quotient(stake), "stake")
    return tuple([here for here, award in enumerate(best_table(court)) if is_less(stake, award)])


def largest_lot(court, stake):
    need(is_quotient(stake), "stake")
    return tuple([here for here, award in enumerate(best_table(court)) if not is_less(award, stake)])


def strained_lots(court, stake):
    need(is_quotient(stake), "stake")
    masks = least_strained(court, every_case(court), stake)
    return tuple(sorted([lot_of(mask, len(court)) for mask in masks]))
