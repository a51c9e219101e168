"""[26] lots."""

from oneistrue.lots import is_lower, is_upper, lower_of, many_lots, upper_of, uppers_of
from tests import support
from tests.support import EXAMPLES, MIXED, PAIR, SEEN, Case, all_lots, made_courts, wrong_lots

COURTS = EXAMPLES + tuple(made_courts(80, 1, 6, seed=12)) + tuple(made_courts(6, 8, 8, seed=13))


def least(lots, lot):
    """The one of the lots that has all cases of lot and lies in all others that have."""
    having = [set(other) for other in lots if set(lot) <= set(other)]
    return tuple(sorted(set.intersection(*having)))


class LotsTest(Case):
    def test_by_definition(self):
        for court in COURTS:
            lots = all_lots(len(court))
            uppers = [lot for lot in lots if support.is_upper(court, lot)]
            lowers = [lot for lot in lots if support.is_lower(court, lot)]
            self.same(uppers_of(court), tuple(sorted(uppers)))
            self.same(many_lots(court), len(uppers))
            for lot in lots[::max(1, len(lots) // 40)]:
                self.same(is_upper(court, lot), lot in uppers)
                self.same(is_lower(court, lot), lot in lowers)
                self.same(upper_of(court, lot), least(uppers, lot))
                self.same(lower_of(court, lot), least(lowers, lot))

    def test_the_rest_of_an_upper_lot_is_lower(self):
        for court in COURTS:
            whole = set(range(len(court)))
            for lot in uppers_of(court):
                self.same(is_lower(court, tuple(sorted(whole - set(lot)))), True)

    def test_nothing_and_all(self):
        for court in COURTS:
            whole = tuple(range(len(court)))
            for lot in ((), whole):
                self.assertIn(lot, uppers_of(court))
                self.same((is_upper(court, lot), is_lower(court, lot)), (True, True))
                self.same((upper_of(court, lot), lower_of(court, lot)), (lot, lot))

    def test_counts(self):
        alike, unlike = PAIR[:1] * 8, tuple((1, (0, 1), (1, 1), ((), ()), k) for k in range(8))
        chain = tuple((1, (0, 1), (1, 1), ((k,), ()), 0) for k in range(8))
        self.same([many_lots(court) for court in (alike, unlike, chain, SEEN)], [2, 256, 9, 4])
        self.same(uppers_of(alike), ((), tuple(range(8))))
        self.same(len(uppers_of(unlike)), 256)
        self.same(uppers_of(chain), tuple(sorted(tuple(range(k, 8)) for k in range(9))))
        ten = tuple((1, (0, 1), (1, 1), ((), ()), k) for k in range(10))
        self.same(many_lots(ten), 1024)

    def test_refusals(self):
        for function in (is_upper, is_lower, upper_of, lower_of):
            for court in (PAIR, MIXED):
                self.check_parameters(function, {"court": court, "lot": (0, 1)}, {"lot": wrong_lots(court)})
