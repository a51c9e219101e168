"""The dealing behind a one-liar hearing."""

from oneistrue.hearingchecker import is_one_liar
from oneistrue.outcomes import table_in
from oneistrue.quotients import times
from oneistrue.tables import pulls_of
from oneistrue.usable import need


def dealing_back(court, hearing):
    need(is_one_liar(court, hearing), "hearing")
    pleas = hearing[0]
    cases = range(len(court))
    pulls = pulls_of(court, table_in(hearing))
    return tuple([
        (d, c, times(pleas[d][c], pulls[d])) for d in cases for c in cases if pleas[d][c][0] > 0 and pulls[d][0] > 0
    ])
