"""What a side could gain in a hearing by telling another story, the other side keeping to its chances."""

from oneistrue.hearingkinds import is_hearing
from oneistrue.outcomes import mean_in, mean_of
from oneistrue.plans import certain_row
from oneistrue.quotients import greatest_one, least_one, minus
from oneistrue.telling import stories_of
from oneistrue.usable import is_case, is_side, need


def mean_by(hearing, side, here, story):
    """The mean award in here if the side tells the story for certain."""
    pleas, replies, awards = hearing
    row = certain_row(len(pleas), story)
    if side == 0:
        return mean_of(awards, row, replies[here])
    return mean_of(awards, pleas[here], row)


def best_in(court, hearing, side, here):
    """What best_mean tells, unchecked."""
    means = [mean_by(hearing, side, here, story) for story in stories_of(court, side, here)]
    return greatest_one(means) if side == 0 else least_one(means)


def better_by(side, award, other):
    """By how much the award is better for the side than the other one."""
    return minus(award, other) if side == 0 else minus(other, award)


def gain_in(court, hearing, side, here):
    """What gain_of tells, unchecked."""
    return better_by(side, best_in(court, hearing, side, here), mean_in(hearing, here))


def best_mean(court, hearing, side, here):
    need(is_hearing(court, hearing), "hearing")
    need(is_side(side), "side")
    need(is_case(court, here), "here")
    return best_in(court, hearing, side, here)


def gain_of(court, hearing, side, here):
    need(is_hearing(court, hearing), "hearing")
    need(is_side(side), "side")
    need(is_case(court, here), "here")
    return gain_in(court, hearing, side, here)


def first_gain(court, hearing):
    need(is_hearing(court, hearing), "hearing")
    for side in (0, 1):
        for here in range(len(court)):
            award = mean_in(hearing, here)
            for story in stories_of(court, side, here):
                if better_by(side, mean_by(hearing, side, here, story), award)[0] > 0:
                    return side, here, story
    return None
