"""What comes out of a hearing."""

from oneistrue.hearingkinds import is_hearing
from oneistrue.quotients import plus, times, total
from oneistrue.telling import tellers_of
from oneistrue.usable import is_case, need


def need_pair(court, plea, reply):
    """Refuses what is no pair of stories that can be told."""
    need(is_case(court, plea), "plea")
    need(is_case(court, reply), "reply")
    need(len(tellers_of(court, plea, reply)) > 0, "reply")


def weights_for(court, hearing, plea, reply):
    """What pair_weights tells, unchecked."""
    pleas, replies = hearing[:2]
    return tuple([
        times((case[0], 1), times(pleas[here][plea], replies[here][reply])) for here, case in enumerate(court)
    ])


def is_told(weights):
    """Whether a pair with these pair_weights is told."""
    return any([weight[0] > 0 for weight in weights])


def chances_of(pleas, replies):
    """Triples (plea, reply, chance) of the pairs told with these rows of both sides."""
    return [
        (plea, reply, times(ours, theirs))
        for plea, ours in enumerate(pleas) for reply, theirs in enumerate(replies) if ours[0] > 0 and theirs[0] > 0
    ]


def mean_of(awards, pleas, replies):
    """The mean of the awards with these rows of both sides."""
    return total(tuple([times(chance, awards[plea][reply]) for plea, reply, chance in chances_of(pleas, replies)]))


def mean_in(hearing, here):
    """The award of the case here, unchecked."""
    pleas, replies, awards = hearing
    return mean_of(awards, pleas[here], replies[here])


def table_in(hearing):
    """The table of the hearing, unchecked."""
    return tuple([mean_in(hearing, here) for here in range(len(hearing[0]))])


def pair_weights(court, hearing, plea, reply):
    need(is_hearing(court, hearing), "hearing")
    need_pair(court, plea, reply)
    return weights_for(court, hearing, plea, reply)


def mean_award(court, hearing, here):
    need(is_hearing(court, hearing), "hearing")
    need(is_case(court, here), "here")
    return mean_in(hearing, here)


def table_from(court, hearing):
    need(is_hearing(court, hearing), "hearing")
    return table_in(hearing)


def spread_of(court, hearing, here):
    need(is_hearing(court, hearing), "hearing")
    need(is_case(court, here), "here")
    pleas, replies, awards = hearing
    chances = {}
    for plea, reply, chance in chances_of(pleas[here], replies[here]):
        award = awards[plea][reply]
        chances[award] = plus(chances.get(award, (0, 1)), chance)
    return tuple([(known, chances[known]) for known in sorted(chances)])
