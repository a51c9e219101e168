"""An award rule of a court as an object."""

from oneistrue.courtchecker import is_court
from oneistrue.rulechecker import is_rule, rule_award
from oneistrue.rulemending import cut_award
from oneistrue.ruleplays import rule_table, table_by
from oneistrue.usable import is_side, need


class Rule:
    """A rule of a court that does not change."""

    def __init__(self, court, rule):
        need(is_court(court), "court")
        need(is_rule(court, rule), "rule")
        self._cases = court
        self._rule = rule

    @property
    def inner(self):
        return self._cases, self._rule

    @property
    def rows_in(self):
        return self._rule[0]

    @property
    def fallback_award(self):
        return self._rule[1]

    def __len__(self):
        return len(self._rule[0])

    def __eq__(self, other):
        return isinstance(other, Rule) and self._cases == other._cases and self._rule == other._rule

    def __call__(self, sight, shown, counter):
        return rule_award(self._cases, self._rule, sight, shown, counter)

    def worths(self, side):
        return rule_table(self._cases, self._rule, side)

    def bounded(self, side, sight, shown, counter):
        need(is_side(side), "side")
        table = table_by(self._cases, self._rule, side)
        return cut_award(self._cases, self._rule, table, sight, shown, counter)
