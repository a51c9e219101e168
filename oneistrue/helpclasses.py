"""A court with a sheet of facts as an object."""

from oneistrue.badpairs import bad_pairs
from oneistrue.cheapest import cheapest_facts
from oneistrue.courtchecker import is_court
from oneistrue.fewest import fewest_facts
from oneistrue.helps import opening_help
from oneistrue.sheets import is_sheet, opened
from oneistrue.spans import right_span
from oneistrue.usable import need


class Help:
    """A court and a sheet of it that do not change."""

    def __init__(self, court, sheet):
        need(is_court(court), "court")
        need(is_sheet(court, sheet), "sheet")
        self._cases = court
        self._sheet = sheet

    @property
    def inner(self):
        return self._cases, self._sheet

    @property
    def bad(self):
        return bad_pairs(self._cases)

    @property
    def fewest(self):
        return fewest_facts(self._cases, self._sheet)

    @property
    def spans_of_rights(self):
        return tuple([right_span(self._cases, here) for here in range(len(self._cases))])

    def __len__(self):
        return len(self._sheet[0])

    def __eq__(self, other):
        return isinstance(other, Help) and self._cases == other._cases and self._sheet == other._sheet

    def seen(self, facts):
        return opened(self._cases, self._sheet, facts)

    def gain(self, facts):
        return opening_help(self._cases, self._sheet, facts)

    def cheapest(self, costs):
        return cheapest_facts(self._cases, self._sheet, costs)
