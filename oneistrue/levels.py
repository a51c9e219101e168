"""The one award at which weights times leans add up to 0."""

from oneistrue.kinds import is_table
from oneistrue.quotients import lowest, on_one_bottom
from oneistrue.usable import is_lot, need


def factor_at(factors, award, right):
    return factors[0] if award >= right else factors[1]


def strain_at(weights, cases, rights, award):
    """The sum of weight times lean at award; rights and award are integers on one bottom."""
    return sum([
        weight * factor_at(case[2], award, right) * (award - right)
        for weight, case, right in zip(weights, cases, rights)
    ])


def level_at(weights, cases):
    """The level for integer weights of the cases of at least 0, not all 0, unchecked."""
    rights, bottom = on_one_bottom([case[1] for case in cases])
    # From the right award below it to this one the sum is a straight line, and comes to 0 there.
    bound = min([right for right in rights if strain_at(weights, cases, rights, right) >= 0])
    slopes = [
        weight * (case[2][0] if right < bound else case[2][1])
        for weight, case, right in zip(weights, cases, rights)
    ]
    top = sum([slope * right for slope, right in zip(slopes, rights)])
    return lowest(top, bottom * sum(slopes))


def level_in(court, lot):
    """The level of a lot that is not empty, unchecked."""
    cases = [court[here] for here in lot]
    return level_at([case[0] for case in cases], cases)


def level_of(court, lot):
    need(is_lot(court, lot) and len(lot) > 0, "lot")
    return level_in(court, lot)


def is_weights(size, thing):
    """A quotient of at least 0 for each case, not all 0."""
    if not is_table(size, thing):
        return False
    return all([weight[0] >= 0 for weight in thing]) and any([weight[0] > 0 for weight in thing])


def level_by(court, weights):
    need(is_weights(len(court), weights), "weights")
    # Weights on one bottom: that all are times this bottom leaves the level.
    tops = on_one_bottom(weights)[0]
    return level_at(tops, court)
