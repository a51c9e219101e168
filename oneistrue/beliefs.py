"""What the desk may believe behind the award of a pair of stories."""

from oneistrue.hearingkinds import is_hearing
from oneistrue.outcomes import is_told, need_pair, weights_for
from oneistrue.plans import certain_row
from oneistrue.quotients import is_less, minus, over, times, total
from oneistrue.telling import tellers_of
from oneistrue.usable import need


def shares_of(weights):
    """The weights, not all 0, divided by their sum."""
    whole = total(weights)
    return tuple([over(weight, whole) for weight in weights])


def belief_between(court, low, high, award):
    """A belief in two cases, the right award of low below the award, that of high above it."""
    down = times((court[high][2][1], 1), minus(court[high][1], award))
    up = times((court[low][2][0], 1), minus(award, court[low][1]))
    # Weights crosswise: so weight times lean of both add up to 0.
    weights = [(0, 1) for _ in court]
    weights[low] = down
    weights[high] = up
    return shares_of(tuple(weights))


def belief_at(court, lot, award):
    """A belief in cases of the lot of which the level is the award, None if there is none."""
    equals = [here for here in lot if court[here][1] == award]
    lows = [here for here in lot if is_less(court[here][1], award)]
    highs = [here for here in lot if is_less(award, court[here][1])]
    if len(equals) > 0:
        return certain_row(len(court), equals[0])
    if len(lows) == 0 or len(highs) == 0:
        return None
    return belief_between(court, lows[0], highs[0], award)


def belief_in(court, hearing, plea, reply):
    """What belief_of tells, unchecked."""
    weights = weights_for(court, hearing, plea, reply)
    if is_told(weights):
        return shares_of(weights)
    return belief_at(court, tellers_of(court, plea, reply), hearing[2][plea][reply])


def belief_of(court, hearing, plea, reply):
    need(is_hearing(court, hearing), "hearing")
    need_pair(court, plea, reply)
    return belief_in(court, hearing, plea, reply)
