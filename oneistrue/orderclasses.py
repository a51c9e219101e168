"""The order of a court as an object."""

from oneistrue.classes import classes_of, ties_of
from oneistrue.courtchecker import is_court
from oneistrue.hiding import order_of, over_of, under_of
from oneistrue.kinds import is_holding
from oneistrue.lots import lower_of, upper_of
from oneistrue.usable import need


class Order:
    """The order of a court that does not change."""

    def __init__(self, court):
        need(is_court(court), "court")
        self._cases = court
        self._pairs = order_of(court)

    @property
    def inner(self):
        return self._cases

    @property
    def pairs(self):
        return self._pairs

    @property
    def classes(self):
        return classes_of(self._cases)

    @property
    def ties(self):
        return ties_of(self._cases)

    def __len__(self):
        return len(self._pairs)

    def __contains__(self, x):
        # True is not 1: a pair is one of two numbers.
        return is_holding(2, x) and x in self._pairs

    def __eq__(self, other):
        if not isinstance(other, Order):
            return False
        return len(self._cases) == len(other._cases) and self._pairs == other._pairs

    def lies_in(self, other):
        need(isinstance(other, Order), "other")
        if len(self._cases) != len(other._cases):
            return False
        return all([pair in other._pairs for pair in self._pairs])

    def under(self, here):
        return under_of(self._cases, here)

    def over(self, there):
        return over_of(self._cases, there)

    def lifted(self, lot):
        return upper_of(self._cases, lot)

    def sunk(self, lot):
        return lower_of(self._cases, lot)
