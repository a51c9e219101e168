"""Best awards told by upper lots against lower lots."""

from oneistrue.best import best_table
from oneistrue.levels import level_in
from oneistrue.lots import lifted_to, sunk_to
from oneistrue.quotients import greatest_one, is_less, least_one
from oneistrue.usable import is_case, is_lot, need


def common_level(court, upper, lower):
    need(is_lot(court, upper) and lifted_to(court, upper) == upper, "upper")
    need(is_lot(court, lower) and sunk_to(court, lower) == lower, "lower")
    lot = tuple([here for here in upper if here in lower])
    need(len(lot) > 0, "lower")
    return level_in(court, lot)


def best_lots(court, here):
    need(is_case(court, here), "here")
    best = best_table(court)
    at_least = tuple([case for case, award in enumerate(best) if not is_less(award, best[here])])
    at_most = tuple([case for case, award in enumerate(best) if not is_less(best[here], award)])
    return at_least, at_most


def bottom_award(court):
    return least_one(best_table(court))


def top_award(court):
    return greatest_one(best_table(court))
