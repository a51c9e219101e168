"""A table of a court as an object."""

from oneistrue.courtchecker import is_court
from oneistrue.kinds import is_quotient, is_table
from oneistrue.limited import cut_between, need_limits
from oneistrue.quotients import greatest_one, is_less, least_one, plus
from oneistrue.tables import is_rising, pulls_of, wrong_of
from oneistrue.usable import is_case, is_lot, need


class Table:
    """A table of a court, rising or not, that does not change."""

    def __init__(self, court, table):
        need(is_court(court), "court")
        need(is_table(len(court), table), "table")
        self._cases = court
        self._awards = table

    @property
    def inner(self):
        return self._cases, self._awards

    @property
    def pulls(self):
        return pulls_of(self._cases, self._awards)

    @property
    def wrong(self):
        return wrong_of(self._cases, self._awards)

    @property
    def rises(self):
        return is_rising(self._cases, self._awards)

    def __len__(self):
        return len(self._awards)

    def __iter__(self):
        return iter(self._awards)

    def __getitem__(self, at):
        need(is_case(self._cases, at), "here")
        return self._awards[at]

    def __eq__(self, other):
        return isinstance(other, Table) and self._cases == other._cases and self._awards == other._awards

    def at_most(self, other):
        need(isinstance(other, Table) and len(other._awards) == len(self._awards), "other")
        return not any([is_less(theirs, ours) for ours, theirs in zip(self._awards, other._awards)])

    def moved(self, lot, by):
        need(is_lot(self._cases, lot), "lot")
        need(is_quotient(by), "by")
        awards = [plus(award, by) if here in lot else award for here, award in enumerate(self._awards)]
        return Table(self._cases, tuple(awards))

    def least_of(self, other):
        need(isinstance(other, Table) and other._cases == self._cases, "other")
        return Table(self._cases, tuple([least_one(both) for both in zip(self._awards, other._awards)]))

    def greatest_of(self, other):
        need(isinstance(other, Table) and other._cases == self._cases, "other")
        return Table(self._cases, tuple([greatest_one(both) for both in zip(self._awards, other._awards)]))

    def cut_off(self, least, most):
        need_limits(least, most)
        return Table(self._cases, cut_between(self._awards, least, most))
