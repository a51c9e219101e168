"""Tells whether a thing is a court, and if not, what is wrong with it."""

from oneistrue.errors import InvalidPaper
from oneistrue.kinds import is_number, is_numbers, is_positive, is_quotient, is_tuple_of


def is_factors(thing):
    return is_tuple_of(2, thing) and is_positive(thing[0]) and is_positive(thing[1])


def is_holdings(thing):
    return is_tuple_of(2, thing) and is_numbers(thing[0]) and is_numbers(thing[1])


def have_as_many(holdings, others):
    """Side by side, two pairs of holdings have as many grades."""
    return len(holdings[0]) == len(others[0]) and len(holdings[1]) == len(others[1])


def fault_of(case, first):
    """The word for what is wrong with a case, or None; first is the court's first case."""
    if not is_tuple_of(5, case):
        return "case"
    weight, right, factors, holdings, sight = case
    if not is_positive(weight):
        return "weight"
    if not is_quotient(right):
        return "right"
    if not is_factors(factors):
        return "factors"
    if not is_holdings(holdings) or not have_as_many(holdings, first[3]):
        return "holdings"
    if not is_number(sight):
        return "sight"
    return None


def lets_court(thing):
    if not isinstance(thing, tuple) or len(thing) == 0:
        raise InvalidPaper("shape", -1)
    for i, case in enumerate(thing):
        word = fault_of(case, thing[0])
        if word is not None:
            raise InvalidPaper(word, i)
    return len(thing)


def is_court(thing):
    try:
        lets_court(thing)
    except InvalidPaper:
        return False
    return True
