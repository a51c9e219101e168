"""What a side gets in the hearing of a dealing if it shows exhibits instead of telling a case."""

from oneistrue.best import best_table
from oneistrue.dealchecker import is_dealing
from oneistrue.forests import pairs_in
from oneistrue.hearings import award_for
from oneistrue.kinds import is_number
from oneistrue.plans import plea_rows, reply_rows
from oneistrue.quotients import times, total
from oneistrue.tables import pulls_of
from oneistrue.telling import is_within, tells
from oneistrue.usable import is_case, is_showing, is_side, need


def is_case_or_showing(court, side, thing):
    return is_case(court, thing) or is_showing(court, side, thing)


def can_do(court, side, here, thing):
    """Whether in here the side can tell the case, or may show the showing."""
    if is_number(thing):
        return tells(court, side, here, thing)
    return is_within(thing, court[here][3][side])


def doers_of(court, sight, plea, counter):
    """The cases that can do both."""
    return [
        here for here, case in enumerate(court)
        if case[4] == sight and can_do(court, 0, here, plea) and can_do(court, 1, here, counter)
    ]


def award_shown(court, dealing, sight, plea, counter):
    """What shown_award tells, unchecked, where a case can do both."""
    best = best_table(court)
    if is_number(plea) and is_number(counter):
        return award_for(court, best, pairs_in(dealing), plea, counter)
    pulls = pulls_of(court, best)
    if is_number(counter) and pulls[counter][0] >= 0 and can_do(court, 0, counter, plea):
        return court[counter][1]
    if is_number(plea) and pulls[plea][0] <= 0 and can_do(court, 1, plea, counter):
        return court[plea][1]
    return court[doers_of(court, sight, plea, counter)[0]][1]


def shown_award(court, dealing, sight, plea, counter):
    need(is_dealing(court, dealing), "dealing")
    need(is_number(sight), "sight")
    need(is_case_or_showing(court, 0, plea), "plea")
    need(is_case_or_showing(court, 1, counter), "counter")
    need(len(doers_of(court, sight, plea, counter)) > 0, "counter")
    return award_shown(court, dealing, sight, plea, counter)


def mean_over(court, dealing, side, row, sight, shown):
    """The mean if the side shows this, and the other one tells its stories with the chances of the row."""
    told = [(story, chance) for story, chance in enumerate(row) if chance[0] > 0]
    if side == 0:
        return total(tuple([
            times(chance, award_shown(court, dealing, sight, shown, story)) for story, chance in told
        ]))
    return total(tuple([
        times(chance, award_shown(court, dealing, sight, story, shown)) for story, chance in told
    ]))


def shown_mean(court, dealing, here, side, shown):
    need(is_dealing(court, dealing), "dealing")
    need(is_case(court, here), "here")
    need(is_side(side), "side")
    need(is_showing(court, side, shown) and is_within(shown, court[here][3][side]), "shown")
    rows = reply_rows(court, dealing) if side == 0 else plea_rows(court, dealing)
    return mean_over(court, dealing, side, rows[here], court[here][4], shown)
