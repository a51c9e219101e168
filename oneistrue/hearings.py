"""The hearing of a dealing: an award for each pair of stories that can be told."""

from oneistrue.best import best_table
from oneistrue.dealchecker import is_dealing
from oneistrue.forests import pairs_in
from oneistrue.plans import plea_rows, reply_rows
from oneistrue.quotients import greatest_one
from oneistrue.tables import pulls_of
from oneistrue.telling import tellers_of, tells
from oneistrue.usable import is_case, need


def honest_award(court, best, plea, reply):
    """The award of a pair of two stories that is no dispute."""
    pulls = pulls_of(court, best)
    reply_counts = pulls[reply][0] >= 0 and tells(court, 0, reply, plea)
    plea_counts = pulls[plea][0] <= 0 and tells(court, 1, plea, reply)
    if reply_counts and plea_counts:
        return greatest_one((court[reply][1], best[plea]))
    if reply_counts:
        return court[reply][1]
    if plea_counts:
        return court[plea][1]
    return court[tellers_of(court, plea, reply)[0]][1]


def award_for(court, best, disputes, plea, reply):
    """The award of a pair that can be told, given the best table and the disputes of a dealing."""
    if plea == reply:
        return court[plea][1]
    if (reply, plea) in disputes:
        return best[plea]
    return honest_award(court, best, plea, reply)


def told_award(court, dealing, plea, reply):
    need(is_dealing(court, dealing), "dealing")
    need(is_case(court, plea), "plea")
    need(is_case(court, reply), "reply")
    need(len(tellers_of(court, plea, reply)) > 0, "reply")
    return award_for(court, best_table(court), pairs_in(dealing), plea, reply)


def awards_for(court, dealing):
    """For each plea, for each reply the award, None if the pair can't be told."""
    best = best_table(court)
    disputes = pairs_in(dealing)
    cases = range(len(court))
    return tuple([
        tuple([
            award_for(court, best, disputes, plea, reply) if len(tellers_of(court, plea, reply)) > 0 else None
            for reply in cases
        ])
        for plea in cases
    ])


def hearing_of(court, dealing):
    need(is_dealing(court, dealing), "dealing")
    return plea_rows(court, dealing), reply_rows(court, dealing), awards_for(court, dealing)
