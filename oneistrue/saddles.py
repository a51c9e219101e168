"""Pairs of stories that neither side can better alone, and hearings in which one side speaks first."""

from oneistrue.hearingkinds import is_hearing
from oneistrue.outcomes import chances_of
from oneistrue.quotients import greatest_one, is_less, least_one
from oneistrue.telling import stories_of, tells
from oneistrue.usable import is_case, is_side, need


def is_saddle_in(court, hearing, here, plea, reply):
    """What is_saddle tells, unchecked."""
    awards = hearing[2]
    award = awards[plea][reply]
    if any([is_less(award, awards[story][reply]) for story in stories_of(court, 0, here)]):
        return False
    return not any([is_less(awards[plea][story], award) for story in stories_of(court, 1, here)])


def is_saddle(court, hearing, here, plea, reply):
    need(is_hearing(court, hearing), "hearing")
    need(is_case(court, here), "here")
    need(is_case(court, plea) and tells(court, 0, here, plea), "plea")
    need(is_case(court, reply) and tells(court, 1, here, reply), "reply")
    return is_saddle_in(court, hearing, here, plea, reply)


def first_worth(court, hearing, side, here):
    need(is_hearing(court, hearing), "hearing")
    need(is_side(side), "side")
    need(is_case(court, here), "here")
    awards = hearing[2]
    pleas, replies = stories_of(court, 0, here), stories_of(court, 1, here)
    if side == 0:
        return greatest_one([least_one([awards[plea][reply] for reply in replies]) for plea in pleas])
    return least_one([greatest_one([awards[plea][reply] for plea in pleas]) for reply in replies])


def first_open(court, hearing):
    need(is_hearing(court, hearing), "hearing")
    pleas, replies = hearing[:2]
    for here in range(len(court)):
        for plea, reply, _ in chances_of(pleas[here], replies[here]):
            if not is_saddle_in(court, hearing, here, plea, reply):
                return here, plea, reply
    return None
