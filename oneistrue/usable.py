"""What parameters have to be, and how a function refuses one that is not."""

from oneistrue.errors import NotUsable
from oneistrue.kinds import is_holding, is_integer, is_number, is_set


def need(is_stated, word):
    """Refuses the parameter word if it is not as stated."""
    if not is_stated:
        raise NotUsable(word, -1)


def is_side(thing):
    return is_integer(thing) and thing in (0, 1)


def is_case(court, thing):
    return is_number(thing) and thing < len(court)


def every_case(court):
    """The lot of all cases."""
    return tuple(range(len(court)))


def is_lot(court, thing):
    return is_set(len(court), thing)


def is_exhibit(court, side, thing):
    return is_number(thing) and thing < len(court[0][3][side])


def is_showing(court, side, thing):
    return is_holding(len(court[0][3][side]), thing)
