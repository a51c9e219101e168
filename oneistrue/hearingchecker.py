"""Tells whether a thing is a one-liar hearing, and if not, what is wrong with it."""

from oneistrue.errors import InvalidPaper
from oneistrue.gains import gain_in
from oneistrue.hearingkinds import is_hearing
from oneistrue.levels import level_by
from oneistrue.lies import is_liar
from oneistrue.outcomes import is_told, table_in, weights_for
from oneistrue.quotients import greatest_one, is_less, least_one
from oneistrue.telling import tellers_of


def is_believed(court, hearing, plea, reply):
    """Whether a pair has an award that the document asks for, or can't be told."""
    lot = tellers_of(court, plea, reply)
    if len(lot) == 0:
        return True
    award = hearing[2][plea][reply]
    weights = weights_for(court, hearing, plea, reply)
    if is_told(weights):
        return level_by(court, weights) == award
    rights = [court[here][1] for here in lot]
    return not is_less(award, least_one(rights)) and not is_less(greatest_one(rights), award)


def is_agreed(court, hearing, t):
    """Whether the award of (t, t) is on the right side of the right award of t, as far as a side lies in t."""
    award, right = hearing[2][t][t], court[t][1]
    if is_liar(hearing, 0, t) and is_less(award, right):
        return False
    return not is_liar(hearing, 1, t) or not is_less(right, award)


def faults_in(court, hearing):
    """The pairs (word, at) for all that keeps a hearing from being a one-liar hearing, in sequence."""
    cases = range(len(court))
    gains = [("gain", (t, side)) for t in cases for side in (0, 1) if gain_in(court, hearing, side, t)[0] > 0]
    beliefs = [
        ("belief", (plea, reply)) for plea in cases for reply in cases if not is_believed(court, hearing, plea, reply)
    ]
    agreed = [("agreed", t) for t in cases if not is_agreed(court, hearing, t)]
    liars = [("liars", t) for t in cases if is_liar(hearing, 0, t) and is_liar(hearing, 1, t)]
    return gains + beliefs + agreed + liars


def is_one_liar(court, thing):
    return is_hearing(court, thing) and len(faults_in(court, thing)) == 0


def lets_hearing(court, thing):
    if not is_hearing(court, thing):
        raise InvalidPaper("shape", -1)
    faults = faults_in(court, thing)
    if len(faults) > 0:
        word, at = faults[0]
        raise InvalidPaper(word, at)
    return table_in(thing)
