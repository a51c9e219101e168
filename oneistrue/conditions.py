"""Conditions on the marks of facts: alternatives of triples (fact, equal, mark)."""

from oneistrue.kinds import is_number, is_numbers, is_tuple_of
from oneistrue.usable import need


def is_triple(counts, thing):
    if not is_tuple_of(3, thing):
        return False
    fact, equal, mark = thing
    if not is_number(fact) or fact >= len(counts):
        return False
    return (equal is True or equal is False) and is_number(mark) and mark < counts[fact]


def is_alternative(counts, thing):
    return isinstance(thing, tuple) and all([is_triple(counts, part) for part in thing])


def is_condition(counts, thing):
    return isinstance(thing, tuple) and all([is_alternative(counts, part) for part in thing])


def is_marks(counts, thing):
    """A tuple with a mark for each fact."""
    if not is_numbers(thing) or len(thing) != len(counts):
        return False
    return all([mark < count for mark, count in zip(thing, counts)])


def is_met(condition, marks):
    """Whether the condition holds, unchecked."""
    return any([
        all([(marks[fact] == mark) == equal for fact, equal, mark in alternative])
        for alternative in condition
    ])


def holds(counts, condition, marks):
    need(is_condition(counts, condition), "condition")
    need(is_marks(counts, marks), "marks")
    return is_met(condition, marks)


def either(counts, condition, more):
    need(is_condition(counts, condition), "condition")
    need(is_condition(counts, more), "more")
    return condition + more


def both(counts, condition, more):
    need(is_condition(counts, condition), "condition")
    need(is_condition(counts, more), "more")
    return tuple([one + other for one in condition for other in more])
