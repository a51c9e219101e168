"""Which kind a value is of; True and False are no integers."""

from math import gcd

from oneistrue.errors import NotUsable


def is_integer(thing):
    return isinstance(thing, int) and not isinstance(thing, bool)


def is_number(thing):
    return is_integer(thing) and thing >= 0


def is_positive(thing):
    """An integer of at least 1, as weights and factors are."""
    return is_integer(thing) and thing >= 1


def is_tuple_of(size, thing):
    """A tuple of so many parts, of whatever kind."""
    return isinstance(thing, tuple) and len(thing) == size


def is_quotient(thing):
    # As each calculation asks this, it is told with few calls.
    if not isinstance(thing, tuple) or len(thing) != 2:
        return False
    top, bottom = thing
    return is_integer(top) and is_integer(bottom) and bottom >= 1 and gcd(top, bottom) == 1


def is_numbers(thing):
    """A tuple of numbers, however many."""
    return isinstance(thing, tuple) and all([is_number(part) for part in thing])


def is_ascending(things):
    """Things of one kind, each above the one ahead of it."""
    return all([one < other for one, other in zip(things, things[1:])])


def is_set(size, thing):
    return is_numbers(thing) and all([part < size for part in thing]) and is_ascending(thing)


def is_table(size, thing):
    return is_tuple_of(size, thing) and all([is_quotient(part) for part in thing])


def is_holding(many, thing):
    if not is_number(many):
        raise NotUsable("many", -1)
    return is_numbers(thing) and len(thing) == many
