"""Tells whether a thing is an award rule, and if not, what is wrong with it; and which award a rule tells."""

from oneistrue.dealchecker import need_sound
from oneistrue.kinds import is_number, is_quotient, is_tuple_of
from oneistrue.telling import is_within
from oneistrue.usable import is_showing, need


def line_fault(court, line):
    """The word for what is wrong with a line, or None."""
    if not is_tuple_of(4, line):
        return "line"
    sight, shown, counter, award = line
    if not is_number(sight):
        return "sight"
    if not is_showing(court, 0, shown):
        return "shown"
    if not is_showing(court, 1, counter):
        return "counter"
    if not is_quotient(award):
        return "award"
    return None


def rule_fault(court, thing):
    """The pair (word, at) for what is first wrong with thing as a rule, or None."""
    if not is_tuple_of(2, thing) or not isinstance(thing[0], tuple):
        return "shape", -1
    if not is_quotient(thing[1]):
        return "fallback", 1
    for i, line in enumerate(thing[0]):
        word = line_fault(court, line)
        if word is not None:
            return word, i
    return None


def lets_rule(court, thing):
    need_sound(rule_fault(court, thing))
    return len(thing[0])


def is_rule(court, thing):
    return rule_fault(court, thing) is None


def award_by(rule, sight, shown, counter):
    """The award that the rule tells, unchecked."""
    lines, fallback = rule
    for seen, least, most, award in lines:
        if seen == sight and is_within(least, shown) and is_within(counter, most):
            return award
    return fallback


def rule_award(court, rule, sight, shown, counter):
    need(is_rule(court, rule), "rule")
    need(is_number(sight), "sight")
    need(is_showing(court, 0, shown), "shown")
    need(is_showing(court, 1, counter), "counter")
    return award_by(rule, sight, shown, counter)
