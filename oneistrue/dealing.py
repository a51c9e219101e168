"""Dealings of rising tables: who gives how much to whom."""

from oneistrue.best import best_table
from oneistrue.errors import NotBest
from oneistrue.flows import most_along
from oneistrue.hiding import order_of
from oneistrue.kinds import is_table
from oneistrue.quotients import lowest, on_one_bottom
from oneistrue.raising import lot_that_moves
from oneistrue.tables import need_rising, pulls_of
from oneistrue.usable import need


def network_of(court, table):
    """What a dealing of a rising table is made of: (pairs, gives, takes, bottom).

    pairs are those of a giver and a taker with one award; gives and takes tell for each case how much it gives and
    takes, as integers, to be divided by bottom.
    """
    tops, bottom = on_one_bottom(pulls_of(court, table))
    gives = tuple([max(0, top) for top in tops])
    takes = tuple([max(0, -top) for top in tops])
    pairs = [
        (d, c) for d, c in order_of(court) if table[d] == table[c] and gives[d] > 0 and takes[c] > 0
    ]
    return pairs, gives, takes, bottom


def dealing_along(amounts, bottom):
    """The dealing with the amounts, integers by their pairs, divided by bottom; noughts are no disputes."""
    return tuple([
        (d, c, lowest(amounts[(d, c)], bottom)) for d, c in sorted(amounts) if amounts[(d, c)] > 0
    ])


def dealing_found(court, table):
    """Any dealing of a rising table, None if it is not the best one."""
    pairs, gives, takes, bottom = network_of(court, table)
    amounts = most_along(pairs, gives, takes)
    dealt = sum([amounts[pair] for pair in amounts])
    if dealt < sum(gives) or dealt < sum(takes):
        return None
    return dealing_along(amounts, bottom)


def dealing_of(court):
    return dealing_found(court, best_table(court))


def deal_out(court, table):
    need(is_table(len(court), table), "table")
    need_rising(court, table)
    dealing = dealing_found(court, table)
    if dealing is None:
        lot = lot_that_moves(court, table, "raise")
        if lot is not None:
            raise NotBest("raise", lot)
        raise NotBest("lower", lot_that_moves(court, table, "lower"))
    return dealing
