"""Classes of cases that hide under each other, the ties between them, and orders as pairs."""

from oneistrue.hiding import is_under
from oneistrue.kinds import is_ascending, is_set, is_tuple_of
from oneistrue.usable import need


def class_at(court, here):
    cases = range(len(court))
    return tuple([there for there in cases if is_under(court, here, there) and is_under(court, there, here)])


def classes_of(court):
    return tuple(sorted({class_at(court, here) for here in range(len(court))}))


def is_between(court, case, d, c):
    """Whether a case other than both has d hiding under it, and hides under c."""
    return case not in (d, c) and is_under(court, d, case) and is_under(court, case, c)


def is_tie(court, firsts, d, c):
    """Whether d hides under c, with the first case of no third class in between."""
    if d == c or not is_under(court, d, c):
        return False
    return not any([is_between(court, case, d, c) for case in firsts])


def ties_of(court):
    firsts = [lot[0] for lot in classes_of(court)]
    return tuple([(d, c) for d in firsts for c in firsts if is_tie(court, firsts, d, c)])


def is_pair(size, thing):
    """A pair of two different numbers below size."""
    if not is_tuple_of(2, thing):
        return False
    return is_set(size, thing) or is_set(size, (thing[1], thing[0]))


def is_pairs(size, thing):
    """A set of pairs of two different numbers below size."""
    if not isinstance(thing, tuple) or not all([is_pair(size, pair) for pair in thing]):
        return False
    return is_ascending(thing)


def closure(size, pairs):
    """What closed_pairs tells, unchecked."""
    found = {pair: True for pair in pairs}
    for middle in range(size):
        for a in range(size):
            for b in range(size):
                if (a, middle) in found and (middle, b) in found:
                    found[(a, b)] = True
    return tuple(sorted([pair for pair in found if pair[0] != pair[1]]))


def closed_pairs(size, pairs):
    need(is_pairs(size, pairs), "pairs")
    return closure(size, pairs)


def is_order(size, thing):
    return is_pairs(size, thing) and thing == closure(size, thing)
