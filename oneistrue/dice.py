"""Dice, and what they tell of a row of chances."""

from oneistrue.kinds import is_positive, is_quotient, is_table
from oneistrue.quotients import is_less, plus, total
from oneistrue.usable import need


def is_die(thing):
    return is_quotient(thing) and 0 <= thing[0] < thing[1]


def is_chances(thing):
    """A tuple of quotients of at least 0 with the sum 1; so it is not empty."""
    if not isinstance(thing, tuple) or not is_table(len(thing), thing):
        return False
    return all([chance[0] >= 0 for chance in thing]) and total(thing) == (1, 1)


def sums_of(row):
    """For each position the sum of the chances up to this position and with it."""
    sums = []
    whole = (0, 1)
    for chance in row:
        whole = plus(whole, chance)
        sums.append(whole)
    return sums


def told_by(row, die):
    need(is_chances(row), "row")
    need(is_die(die), "die")
    return [at for at, whole in enumerate(sums_of(row)) if is_less(die, whole)][0]


def dice_below(bound, many):
    """How many of the dice 0 / many, 1 / many, .. are below the bound."""
    top, bottom = bound
    return -(-top * many // bottom)


def dice_counts(row, many):
    need(is_chances(row), "row")
    need(is_positive(many), "many")
    below = [dice_below(whole, many) for whole in sums_of(row)]
    return tuple([count - ahead for count, ahead in zip(below, [0] + below)])
