"""Events of a live desk."""

from oneistrue.dice import is_die
from oneistrue.kinds import is_number, is_positive, is_quotient
from oneistrue.usable import is_case, is_exhibit, is_side, need


def kinds_for(word):
    """The kinds of the parts of an event behind its word, None for no event's word."""
    if word == "hear":
        return ("number", "die", "die")
    if word == "weight":
        return ("number", "positive")
    if word == "right":
        return ("number", "quotient")
    if word == "grade":
        return ("side", "number", "number", "number")
    if word == "sight":
        return ("number", "number")
    return None


def is_of(kind, thing):
    """Whether thing is of one of the kinds."""
    if kind == "die":
        return is_die(thing)
    if kind == "positive":
        return is_positive(thing)
    if kind == "quotient":
        return is_quotient(thing)
    if kind == "side":
        return is_side(thing)
    return is_number(thing)


def is_event(thing):
    if not isinstance(thing, tuple) or len(thing) == 0 or not isinstance(thing[0], str):
        return False
    kinds = kinds_for(thing[0])
    if kinds is None or len(thing) != 1 + len(kinds):
        return False
    return all([is_of(kind, part) for kind, part in zip(kinds, thing[1:])])


def reason_in(court, event):
    """What refusal_of tells, unchecked."""
    is_grade = event[0] == "grade"
    here = event[2] if is_grade else event[1]
    if not is_case(court, here):
        return "case"
    if is_grade and not is_exhibit(court, event[1], event[3]):
        return "exhibit"
    return None


def refusal_of(court, event):
    need(is_event(event), "event")
    return reason_in(court, event)
