"""Papers on tables: that one is the best one, or falls, or can be raised or lowered."""

from oneistrue.classes import is_pair
from oneistrue.dealchecker import dealing_fault, need_sound
from oneistrue.dealing import dealing_found
from oneistrue.errors import InvalidPaper
from oneistrue.hiding import is_under
from oneistrue.kinds import is_table, is_tuple_of
from oneistrue.quotients import is_less
from oneistrue.raising import is_closed, lot_that_moves, pulls_so
from oneistrue.tables import first_fall, is_rising, pulls_of
from oneistrue.usable import is_lot, need


def table_paper(court, table):
    need(is_table(len(court), table), "table")
    fall = first_fall(court, table)
    if fall is not None:
        return ("falls",) + fall
    dealing = dealing_found(court, table)
    if dealing is not None:
        return "dealt", dealing
    lot = lot_that_moves(court, table, "raise")
    if lot is not None:
        return "raise", lot
    return "lower", lot_that_moves(court, table, "lower")


def dealt_fault(court, table, thing):
    """The pair (word, at) for what is wrong with a paper that begins with "dealt", or None."""
    if not is_rising(court, table):
        return "falls", 1
    return dealing_fault(court, table, thing[1])


def moved_fault(court, table, thing):
    """Likewise for "raise" and "lower"."""
    direction, lot = thing
    if not is_rising(court, table):
        return "falls", 0
    if not is_lot(court, lot) or len(lot) == 0 or not is_closed(court, table, direction, lot):
        return "lot", 1
    if not pulls_so(pulls_of(court, table), direction, lot):
        return "pull", 1
    return None


def falls_fault(court, table, thing):
    """Likewise for "falls"."""
    if not is_pair(len(court), thing[1:]):
        return "pair", -1
    here, there = thing[1:]
    if not is_under(court, here, there) or not is_less(table[here], table[there]):
        return "pair", -1
    return None


def paper_word(thing):
    """The word with which a paper of the right number of parts begins, None for any other thing."""
    if is_tuple_of(2, thing) and isinstance(thing[0], str) and thing[0] in ("dealt", "raise", "lower"):
        return thing[0]
    if is_tuple_of(3, thing) and isinstance(thing[0], str) and thing[0] == "falls":
        return thing[0]
    return None


def lets_table(court, table, thing):
    need(is_table(len(court), table), "table")
    word = paper_word(thing)
    if word is None:
        raise InvalidPaper("shape", -1)
    if word == "dealt":
        need_sound(dealt_fault(court, table, thing))
    elif word == "falls":
        need_sound(falls_fault(court, table, thing))
    else:
        need_sound(moved_fault(court, table, thing))
    return word == "dealt"
