"""A dealing of a court as an object."""

from oneistrue.courtchecker import is_court
from oneistrue.dealchecker import is_dealing
from oneistrue.forests import forest_of, pairs_in
from oneistrue.kinds import is_holding
from oneistrue.mixes import mixture
from oneistrue.prices import wrongs_in
from oneistrue.usable import is_case, need


class Deal:
    """A dealing of a court that does not change."""

    def __init__(self, court, dealing):
        need(is_court(court), "court")
        need(is_dealing(court, dealing), "dealing")
        self._cases = court
        self._triples = dealing

    @property
    def inner(self):
        return self._cases, self._triples

    @property
    def disputes(self):
        return pairs_in(self._triples)

    @property
    def wrongs(self):
        return wrongs_in(self._cases, self._triples)

    def __len__(self):
        return len(self._triples)

    def __iter__(self):
        return iter(self._triples)

    def __contains__(self, x):
        # True is not 1: a pair is one of two numbers.
        return is_holding(2, x) and x in pairs_in(self._triples)

    def __eq__(self, other):
        return isinstance(other, Deal) and self._cases == other._cases and self._triples == other._triples

    def __add__(self, other):
        need(isinstance(other, Deal) and other._cases == self._cases, "other")
        return Deal(self._cases, mixture(self._triples, other._triples, (1, 2)))

    def __call__(self, here, there):
        need(is_case(self._cases, here), "here")
        need(is_case(self._cases, there), "there")
        amounts = {(d, c): amount for d, c, amount in self._triples}
        return amounts.get((here, there), (0, 1))

    def out_of(self, here):
        need(is_case(self._cases, here), "here")
        return tuple([triple for triple in self._triples if triple[0] == here])

    def into(self, there):
        need(is_case(self._cases, there), "there")
        return tuple([triple for triple in self._triples if triple[1] == there])

    def woods(self):
        return Deal(self._cases, forest_of(self._cases, self._triples))
