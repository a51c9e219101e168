"""What hangs together in a court, and two courts made one."""

from oneistrue.courtchecker import is_court
from oneistrue.hiding import order_of
from oneistrue.usable import need


def hung_by(size, pairs):
    """The set of the sets of numbers below size that hang together by pairs, either way round."""
    marks = list(range(size))
    for one, other in pairs:
        low, high = min(marks[one], marks[other]), max(marks[one], marks[other])
        marks = [low if mark == high else mark for mark in marks]
    return tuple([
        tuple([here for here in range(size) if marks[here] == name]) for name in sorted(set(marks))
    ])


def bundles_of(court):
    return hung_by(len(court), order_of(court))


def sights_of(court):
    cases = range(len(court))
    lots = [tuple([here for here in cases if court[here][4] == case[4]]) for case in court]
    return tuple(sorted(set(lots)))


def noughts_for(court, side):
    """Noughts, as many as the side has exhibits."""
    return (0,) * len(court[0][3][side])


def joined(court, other):
    need(is_court(other), "other")
    ours = (noughts_for(court, 0), noughts_for(court, 1))
    theirs = (noughts_for(other, 0), noughts_for(other, 1))
    rise = max([case[4] for case in court]) + 1
    first = [
        case[:3] + ((case[3][0] + theirs[0], case[3][1] + theirs[1]), case[4]) for case in court
    ]
    second = [
        case[:3] + ((ours[0] + case[3][0], ours[1] + case[3][1]), case[4] + rise) for case in other
    ]
    return tuple(first + second)
