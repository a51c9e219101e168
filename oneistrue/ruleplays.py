"""Award rules played by turns."""

from oneistrue.folders import tuples_of
from oneistrue.kinds import is_numbers
from oneistrue.quotients import greatest_one, least_one
from oneistrue.rulechecker import award_by, is_rule
from oneistrue.usable import is_case, is_side, need


def showings_in(holding):
    """All showings within the holding, ascending."""
    return tuple(tuples_of([grade + 1 for grade in holding]))


def showings_of(holding):
    need(is_numbers(holding), "holding")
    return showings_in(holding)


def answered(rule, case, side, shown):
    """The award in the case if the side shows this first, and the other one then does its best."""
    sight = case[4]
    if side == 0:
        return least_one([award_by(rule, sight, shown, counter) for counter in showings_in(case[3][1])])
    return greatest_one([award_by(rule, sight, told, shown) for told in showings_in(case[3][0])])


def best_turn(rule, case, side):
    """A pair: the first showing with which the side, going first, does its best, and the award of it."""
    showings = showings_in(case[3][side])
    awards = [answered(rule, case, side, shown) for shown in showings]
    best = greatest_one(awards) if side == 0 else least_one(awards)
    return showings[awards.index(best)], best


def table_by(court, rule, side):
    """What rule_table tells, unchecked."""
    return tuple([best_turn(rule, case, side)[1] for case in court])


def rule_worth(court, rule, side, here):
    need(is_rule(court, rule), "rule")
    need(is_side(side), "side")
    need(is_case(court, here), "here")
    return best_turn(rule, court[here], side)[1]


def rule_table(court, rule, side):
    need(is_rule(court, rule), "rule")
    need(is_side(side), "side")
    return table_by(court, rule, side)


def first_showing(court, rule, side, here):
    need(is_rule(court, rule), "rule")
    need(is_side(side), "side")
    need(is_case(court, here), "here")
    return best_turn(rule, court[here], side)[0]
