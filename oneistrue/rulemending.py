"""The rule of a rising table, awards of rules kept between bounds, and rules by which more shown harms."""

from oneistrue.bounds import high_in, low_in, need_place
from oneistrue.changes import put
from oneistrue.gains import better_by
from oneistrue.kinds import is_table
from oneistrue.quotients import greatest_one, least_one, on_one_bottom
from oneistrue.rulechecker import award_by, is_rule
from oneistrue.ruleplays import showings_in
from oneistrue.tables import need_rising
from oneistrue.usable import is_side, need


def low_rule(court, table):
    need(is_table(len(court), table), "table")
    need_rising(court, table)
    tops = on_one_bottom(table)[0]
    falling = sorted([(-top, here) for here, top in enumerate(tops)])
    cases = [(court[spot], table[spot]) for _, spot in falling]
    return tuple([(case[4], case[3][0], case[3][1], award) for case, award in cases]), least_one(table)


def cut_in(court, rule, table, sight, shown, counter):
    """What cut_award tells, unchecked."""
    award = award_by(rule, sight, shown, counter)
    low = low_in(court, table, sight, shown, counter)
    high = high_in(court, table, sight, shown, counter)
    if low is not None:
        award = greatest_one((award, low))
    if high is not None:
        award = least_one((award, high))
    return award


def cut_award(court, rule, table, sight, shown, counter):
    need(is_rule(court, rule), "rule")
    need_place(court, table, sight, shown, counter)
    need_rising(court, table)
    return cut_in(court, rule, table, sight, shown, counter)


def greatest_grades(court, side, sight):
    """The greatest grade of each exhibit of the side in the cases of the sight, at least one."""
    holdings = [case[3][side] for case in court if case[4] == sight]
    return tuple([max([holding[spot] for holding in holdings]) for spot in range(len(holdings[0]))])


def harms(rule, side, sight, showings, exhibit):
    """Whether the award is worse for the side if its showing, one of both, has one grade more of the exhibit."""
    own = showings[side]
    more = put(showings, side, put(own, exhibit, own[exhibit] + 1))
    award = award_by(rule, sight, showings[0], showings[1])
    return better_by(side, award_by(rule, sight, more[0], more[1]), award)[0] < 0


def harm_at(court, rule, side, sight):
    """What first_harm tells, for one sight."""
    bounds = (greatest_grades(court, 0, sight), greatest_grades(court, 1, sight))
    for shown in showings_in(bounds[0]):
        for counter in showings_in(bounds[1]):
            showings = (shown, counter)
            for exhibit, most in enumerate(bounds[side]):
                if showings[side][exhibit] < most and harms(rule, side, sight, showings, exhibit):
                    return sight, shown, counter, exhibit
    return None


def first_harm(court, rule, side):
    need(is_rule(court, rule), "rule")
    need(is_side(side), "side")
    for sight in sorted({case[4] for case in court}):
        harm = harm_at(court, rule, side, sight)
        if harm is not None:
            return harm
    return None
