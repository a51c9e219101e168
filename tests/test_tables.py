"""[35] tables."""

import random

from oneistrue.tables import first_fall, is_rising, pull_of, pulls_of, wrong_of
from tests import support
from tests.support import (
    CHAIN, COIN, EXAMPLES, MIXED, PAIR, SEEN, Case, all_lots, made_courts, made_table, quotient, value, wrong_lots,
    wrong_tables,
)

COURTS = EXAMPLES + tuple(made_courts(100, 1, 6, seed=51))


class TablesTest(Case):
    def test_by_definition(self):
        dice, told = random.Random(52), []
        for court in COURTS:
            for _ in range(10):
                table = made_table(dice, len(court))
                awards = [value(award) for award in table]
                falls = [(d, c) for d, c in support.order(court) if awards[d] < awards[c]]
                self.same(is_rising(court, table), not falls)
                self.same(first_fall(court, table), falls[0] if falls else None)
                told.append(bool(falls))
                pulls = [case[0] * support.lean(case, award) for case, award in zip(court, awards)]
                self.same(pulls_of(court, table), tuple(map(quotient, pulls)))
                self.same(wrong_of(court, table), quotient(support.wrong(court, awards)))
                for lot in all_lots(len(court))[:12]:
                    self.same(pull_of(court, table, lot), quotient(sum(pulls[k] for k in lot)))
        self.assertEqual(set(told), {True, False})

    def test_equal_awards_rise(self):
        for court in COURTS:
            for award in ((0, 1), (-5, 3)):
                self.same(is_rising(court, (award,) * len(court)), True)
                self.same(first_fall(court, (award,) * len(court)), None)

    def test_the_first_pair_ascending(self):
        self.same(first_fall(COIN, ((0, 1), (0, 1), (1, 1))), (0, 2))
        self.same(first_fall(COIN, ((1, 1), (0, 1), (1, 1))), (1, 2))
        self.same(first_fall(CHAIN, ((0, 1), (1, 1), (2, 1))), (0, 1))
        self.same(first_fall(PAIR[::-1], ((1, 1), (0, 1))), (1, 0))
        self.same(first_fall(SEEN, ((0, 1), (1, 1))), None)

    def test_quotients_are_compared_as_numbers(self):
        self.same(is_rising(PAIR, ((1, 2), (2, 5))), True)
        self.same(is_rising(PAIR, ((2, 5), (1, 2))), False)
        self.same(is_rising(PAIR, ((-1, 3), (-1, 2))), True)

    def test_refusals(self):
        for court in (PAIR, MIXED):
            good = {"court": court, "table": tuple((1, 2) for _ in court)}
            for function in (is_rising, first_fall, pulls_of, wrong_of):
                self.check_parameters(function, good, {"table": wrong_tables(court)})
            wrong = {"table": wrong_tables(court), "lot": wrong_lots(court)}
            self.check_parameters(pull_of, {**good, "lot": (0, 1)}, wrong)
        self.same(pull_of(PAIR, ((5, 1), (5, 1)), ()), (0, 1))
