"""Tells whether a thing is a dealing of a table, and if not, what is wrong with it."""

from oneistrue.best import best_table
from oneistrue.classes import is_pair
from oneistrue.errors import InvalidPaper
from oneistrue.hiding import is_under
from oneistrue.kinds import is_quotient, is_table, is_tuple_of
from oneistrue.quotients import total
from oneistrue.tables import need_rising, pulls_of
from oneistrue.usable import need

NOUGHT = (0, 1)


def is_dispute(court, thing):
    """A triple of two different cases and a quotient above 0."""
    if not is_tuple_of(3, thing) or not is_pair(len(court), thing[:2]):
        return False
    return is_quotient(thing[2]) and thing[2][0] > 0


def dispute_fault(court, table, thing, i):
    """The word for what is wrong with the dispute at position i, behind good ones, or None."""
    if not is_dispute(court, thing[i]):
        return "dispute"
    d, c = thing[i][:2]
    if i > 0 and (d, c) <= thing[i - 1][:2]:
        return "sequence"
    if not is_under(court, d, c):
        return "order"
    if table[d] != table[c]:
        return "awards"
    return None


def sum_fault(pull, thing, t):
    """The word for the sum of amounts that is not what the pull of the case t asks for, or None."""
    given = total(tuple([amount for d, _, amount in thing if d == t]))
    taken = total(tuple([amount for _, c, amount in thing if c == t]))
    top, bottom = pull
    if given != (pull if top > 0 else NOUGHT):
        return "given"
    if taken != ((-top, bottom) if top < 0 else NOUGHT):
        return "taken"
    return None


def dealing_fault(court, table, thing):
    """The pair (word, at) for what is wrong with thing as a dealing of a rising table, or None."""
    if not isinstance(thing, tuple):
        return "shape", -1
    for i in range(len(thing)):
        word = dispute_fault(court, table, thing, i)
        if word is not None:
            return word, i
    for t, pull in enumerate(pulls_of(court, table)):
        word = sum_fault(pull, thing, t)
        if word is not None:
            return word, t
    return None


def need_sound(fault):
    """Refuses a paper with a fault, a pair (word, at)."""
    if fault is not None:
        raise InvalidPaper(fault[0], fault[1])


def lets_dealing(court, table, thing):
    need(is_table(len(court), table), "table")
    need_rising(court, table)
    need_sound(dealing_fault(court, table, thing))
    return len(thing)


def is_dealing(court, thing):
    return dealing_fault(court, best_table(court), thing) is None
