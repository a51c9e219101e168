"""Lots that raise or lower a rising table; the direction is "raise" or "lower"."""

from oneistrue.hiding import is_under
from oneistrue.lots import lot_of, outside, uppers_within
from oneistrue.quotients import total
from oneistrue.tables import pulls_of


def cases_like(table, here):
    """The lot of the cases with the award of here."""
    return tuple([case for case, award in enumerate(table) if award == table[here]])


def is_upper_in(court, step, lot):
    """Whether the lot has with a case all cases of step that hide under it."""
    return not any([is_under(court, d, c) for d in outside(step, lot) for c in lot])


def is_closed(court, table, direction, lot):
    """Whether a lot that is not empty has one award, and each case of this award that the direction wants."""
    step = cases_like(table, lot[0])
    if len(outside(lot, step)) > 0:
        return False
    if direction == "raise":
        return is_upper_in(court, step, lot)
    # Upper and lower go together: what a lower lot leaves of the step is upper in it.
    return is_upper_in(court, step, outside(step, lot))


def pulls_so(pulls, direction, lot):
    """Whether the pulls of the lot add up to less than 0 for "raise", to more for "lower"."""
    pull = total(tuple([pulls[here] for here in lot]))
    return pull[0] < 0 if direction == "raise" else pull[0] > 0


def closed_lots(court, step, direction):
    """The lots within the step that have each case of it that the direction wants."""
    uppers = [lot_of(mask, len(court)) for mask in uppers_within(court, step)]
    if direction == "raise":
        return uppers
    return [outside(step, lot) for lot in uppers]


def lot_that_moves(court, table, direction):
    """Any lot that raises, or lowers, the rising table; None if there is none."""
    pulls = pulls_of(court, table)
    for here in range(len(court)):
        for lot in closed_lots(court, cases_like(table, here), direction):
            if pulls_so(pulls, direction, lot):
                return lot
    return None
