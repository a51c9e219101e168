"""Who lies in a hearing, and how much."""

from oneistrue.courts import weight_of
from oneistrue.hearingkinds import is_hearing
from oneistrue.outcomes import table_in
from oneistrue.quotients import minus, over, times, total
from oneistrue.tables import pulls_of
from oneistrue.usable import every_case, need


def is_liar(hearing, side, here):
    """Whether the side tells another case in here with a chance above 0."""
    return hearing[side][here][here] != (1, 1)


def lies_in(hearing):
    """What lies_of tells, unchecked."""
    return tuple([(here, side) for here in range(len(hearing[0])) for side in (0, 1) if is_liar(hearing, side, here)])


def lies_of(court, hearing):
    need(is_hearing(court, hearing), "hearing")
    return lies_in(hearing)


def idle_lies(court, hearing):
    need(is_hearing(court, hearing), "hearing")
    pulls = pulls_of(court, table_in(hearing))
    return tuple([(here, side) for here, side in lies_in(hearing) if pulls[here][0] == 0])


def lie_share(court, hearing):
    need(is_hearing(court, hearing), "hearing")
    pleas, replies = hearing[:2]
    lies = [minus((1, 1), times(pleas[here][here], replies[here][here])) for here in range(len(court))]
    told = total(tuple([times((case[0], 1), lie) for case, lie in zip(court, lies)]))
    return over(told, (weight_of(court, every_case(court)), 1))
