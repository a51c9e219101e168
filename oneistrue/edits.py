"""What keeps a court's best table and a dealing of it from being those of another court, too."""

from oneistrue.best import best_table
from oneistrue.courtchecker import is_court
from oneistrue.dealchecker import is_dealing
from oneistrue.givings import pair_cut
from oneistrue.tables import first_fall, pulls_of
from oneistrue.usable import need


def need_edit(court, dealing, other):
    """Refuses what is no dealing of the court, or no court."""
    need(is_dealing(court, dealing), "dealing")
    need(is_court(other), "other")


def first_moved(pulls, others):
    """The first case with another pull, or None."""
    for here, pull in enumerate(pulls):
        if pull != others[here]:
            return here
    return None


def break_in(court, dealing, other):
    """What first_break tells, unchecked."""
    if len(other) != len(court):
        return ("size",)
    best = best_table(court)
    fall = first_fall(other, best)
    if fall is not None:
        return ("fall",) + fall
    cut = pair_cut(dealing, other)
    if cut is not None:
        return ("dispute",) + cut
    moved = first_moved(pulls_of(court, best), pulls_of(other, best))
    if moved is not None:
        return "pull", moved
    return None


def first_break(court, dealing, other):
    need_edit(court, dealing, other)
    return break_in(court, dealing, other)


def stays(court, dealing, other):
    need_edit(court, dealing, other)
    return break_in(court, dealing, other) is None
