"""A hearing of a court as an object."""

from oneistrue.beliefs import belief_in
from oneistrue.courtchecker import is_court
from oneistrue.hearingchecker import is_one_liar
from oneistrue.hearingkinds import is_hearing
from oneistrue.lies import is_liar
from oneistrue.merging import turned
from oneistrue.outcomes import is_told, mean_in, need_pair, table_in, weights_for
from oneistrue.usable import is_case, need


def told_pairs(court, hearing):
    """The pairs that are told in some case."""
    cases = range(len(court))
    return [
        (plea, reply) for plea in cases for reply in cases if is_told(weights_for(court, hearing, plea, reply))
    ]


def minus_award(award):
    if award is None:
        return None
    return (-award[0], award[1])


def swapped_hearing(hearing):
    """The hearing with both sides changed for each other, and minus each award."""
    pleas, replies, awards = hearing
    cases = range(len(pleas))
    turned_awards = tuple([tuple([minus_award(awards[reply][plea]) for reply in cases]) for plea in cases])
    return replies, pleas, turned_awards


class Hearing:
    """A hearing of a court that does not change."""

    def __init__(self, court, hearing):
        need(is_court(court), "court")
        need(is_hearing(court, hearing), "hearing")
        self._cases = court
        self._hearing = hearing

    @property
    def inner(self):
        return self._cases, self._hearing

    @property
    def gives(self):
        return table_in(self._hearing)

    @property
    def true_sides(self):
        return tuple([
            tuple([side for side in (0, 1) if not is_liar(self._hearing, side, here)])
            for here in range(len(self._cases))
        ])

    @property
    def is_fair(self):
        return is_one_liar(self._cases, self._hearing)

    def __len__(self):
        return len(told_pairs(self._cases, self._hearing))

    def __eq__(self, other):
        return isinstance(other, Hearing) and self._cases == other._cases and self._hearing == other._hearing

    def __call__(self, plea, reply):
        need_pair(self._cases, plea, reply)
        return self._hearing[2][plea][reply]

    def mean(self, here):
        need(is_case(self._cases, here), "here")
        return mean_in(self._hearing, here)

    def belief(self, plea, reply):
        need_pair(self._cases, plea, reply)
        return belief_in(self._cases, self._hearing, plea, reply)

    def swapped(self):
        return Hearing(turned(self._cases), swapped_hearing(self._hearing))
