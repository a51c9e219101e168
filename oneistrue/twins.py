"""Courts with a given order in which one side alone holds exhibits."""

from oneistrue.classes import is_order
from oneistrue.hiding import is_under
from oneistrue.usable import need


def flag(is_so):
    return 1 if is_so else 0


def claimant_twin(court):
    cases = range(len(court))
    grades = [tuple([flag(is_under(court, here, spot)) for spot in cases]) for here in cases]
    return tuple([case[:3] + ((ours, ()), 0) for case, ours in zip(court, grades)])


def defendant_twin(court):
    cases = range(len(court))
    grades = [tuple([flag(is_under(court, spot, here)) for spot in cases]) for here in cases]
    return tuple([case[:3] + (((), theirs), 0) for case, theirs in zip(court, grades)])


def blank_court(size, pairs):
    need(is_order(size, pairs), "pairs")
    cases = range(size)
    grades = [tuple([flag(here == spot or (here, spot) in pairs) for spot in cases]) for here in cases]
    return tuple([(1, (0, 1), (1, 1), (ours, ()), 0) for ours in grades])
