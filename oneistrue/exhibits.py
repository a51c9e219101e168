"""Courts without an exhibit, and exhibits that do not matter for the order."""

from oneistrue.changes import put
from oneistrue.hiding import order_of
from oneistrue.usable import is_exhibit, is_side, need


def without(court, side, exhibit):
    """The court with noughts as the grades of the exhibit, unchecked."""
    return tuple([put(case, 3, put(case[3], side, put(case[3][side], exhibit, 0))) for case in court])


def left_out(court, side, exhibit):
    need(is_side(side), "side")
    need(is_exhibit(court, side, exhibit), "exhibit")
    return without(court, side, exhibit)


def exhibits_in(court):
    """All pairs (side, exhibit), ascending."""
    return [(side, exhibit) for side in (0, 1) for exhibit in range(len(court[0][3][side]))]


def is_needless(court, side, exhibit):
    return order_of(without(court, side, exhibit)) == order_of(court)


def needless_of(court):
    return tuple([pair for pair in exhibits_in(court) if is_needless(court, pair[0], pair[1])])


def struck(court):
    last = court
    gone = []
    for side, exhibit in exhibits_in(court):
        if is_needless(last, side, exhibit):
            last = without(last, side, exhibit)
            gone.append((side, exhibit))
    return last, tuple(gone)
