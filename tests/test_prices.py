"""[48] prices, [50] measures; (G6), (G7), and the consequences [52] that speak of them."""

import random
from fractions import Fraction
from itertools import product

from oneistrue.best import best_table, least_wrong
from oneistrue.dealing import dealing_of
from oneistrue.limited import shifted
from oneistrue.measures import power_parts, power_wrong
from oneistrue.mixes import mixed
from oneistrue.prices import dispute_wrongs, price_of, price_parts
from oneistrue.tables import wrong_of
from tests import support
from tests.support import (
    CHAIN, COIN, EXAMPLES, FOUR, HIGH, MIXED, PAIR, ROUND, SEEN, Case, all_alike, all_lots, altered, chain, crowded_courts,
    level, made_courts, made_table, quotient, rising_table, unlike, value, wrong_tables,
)

FAMILIES = (all_alike(8), unlike(8), chain(8))
COURTS = EXAMPLES + (FOUR, HIGH) + FAMILIES + tuple(made_courts(25, 1, 7, seed=121)) + tuple(crowded_courts(25, 2, 7, seed=122))
# All rights are above 0.
ABOVE = tuple(shifted(court, (20, 3)) for court in COURTS)
WRONG_POWERS = (None, True, False, 0, 1, 5, -2, "2", (2,), [2], (2, 1))


def tables_for(court, seed):
    """Tables that rise and tables that do not, the best one among them."""
    dice = random.Random(seed)
    return [best_table(court)] + [rising_table(dice, court) for _ in range(2)] + [made_table(dice, len(court)) for _ in range(3)]


def bend(case, award, to):
    gap = to - value(case[1])
    own = award - value(case[1])
    return support.lean(case, to) * gap - support.lean(case, award) * own - 2 * (to - award) * support.lean(case, award)


def power(case, award, many):
    right = value(case[1])
    factor = case[2][0] if award >= right else case[2][1]
    return factor * (right ** many - award ** many - many * award ** (many - 1) * (right - award))


def power_bend(case, award, to, many):
    slope = many * (to ** (many - 1) - award ** (many - 1))
    return power(case, to, many) - power(case, award, many) - slope * support.lean(case, award)


class PricesTest(Case):
    def test_price(self):
        for court in COURTS:
            for table in tables_for(court, 123):
                price = value(wrong_of(court, table)) - value(least_wrong(court))
                self.same(price_of(court, table), quotient(price))
                if support.is_rising(court, [value(award) for award in table]):
                    self.assertEqual(price > 0, table != best_table(court))
                    self.assertGreaterEqual(price, 0)

    def test_parts(self):
        for court in COURTS:
            best = best_table(court)
            own = dealing_of(court)
            for dealing in {own, mixed(court, own, support.as_dealing(support.corners(court, best)[0]), (1, 3))
                            if len(support.edges(court, best)) < 9 else own}:
                for table in tables_for(court, 124):
                    one = sum(case[0] * bend(case, value(a), value(b)) for case, a, b in zip(court, best, table))
                    other = 2 * sum(value(amount) * (value(table[d]) - value(table[c])) for d, c, amount in dealing)
                    parts = price_parts(court, dealing, table)
                    self.same(parts, (quotient(one), quotient(other)))
                    self.same(quotient(one + other), price_of(court, table))
                    self.assertGreaterEqual(one, 0)
                    self.assertEqual(one == 0, table == best)
                    if support.is_rising(court, [value(award) for award in table]):
                        self.assertGreaterEqual(other, 0)

    def test_disputes(self):
        for court in COURTS:
            dealing = dealing_of(court)
            wrongs = dispute_wrongs(court, dealing)
            expected = [value(amount) * (value(court[c][1]) - value(court[d][1])) for d, c, amount in dealing]
            self.same(wrongs, tuple(map(quotient, expected)))
            self.assertTrue(all(wrong > 0 for wrong in expected))
            self.same(quotient(sum(expected)), least_wrong(court))
        self.same(dispute_wrongs(FOUR, ROUND), ((1, 4),) * 4)
        self.same(dispute_wrongs(COIN, dealing_of(COIN)), ((3, 1), (3, 1)))
        self.same(dispute_wrongs(SEEN, ()), ())

    def test_refusals(self):
        for court in (PAIR, MIXED):
            self.check_parameters(price_of, {"court": court, "table": best_table(court)}, {"table": wrong_tables(court)})
            dealing = dealing_of(court)
            good = {"court": court, "dealing": dealing, "table": best_table(court)}
            self.check_parameters(price_parts, good, {"dealing": altered(dealing), "table": wrong_tables(court)})
            self.check_parameters(dispute_wrongs, {"court": court, "dealing": dealing}, {"dealing": altered(dealing)})


def above(table):
    return tuple(quotient(abs(value(award)) + Fraction(1, 3)) for award in table)


class MeasuresTest(Case):
    def test_power_wrong(self):
        for court in ABOVE:
            for table in tables_for(court, 125):
                table = above(table)
                for many in (2, 3, 4):
                    expected = sum(case[0] * power(case, value(award), many) for case, award in zip(court, table))
                    self.same(power_wrong(court, table, many), quotient(expected))
                self.same(power_wrong(court, table, 2), wrong_of(court, table))

    def test_power_parts(self):
        for court in ABOVE:
            best, dealing = best_table(court), dealing_of(court)
            for table in tables_for(court, 126):
                table = above(table)
                for many in (2, 3, 4):
                    rows = zip(court, best, table)
                    one = sum(case[0] * power_bend(case, value(a), value(b), many) for case, a, b in rows)
                    powers = [value(award) ** (many - 1) for award in table]
                    other = sum(value(amount) * many * (powers[d] - powers[c]) for d, c, amount in dealing)
                    self.same(power_parts(court, dealing, table, many), (quotient(one), quotient(other)))
                    more = value(power_wrong(court, table, many)) - value(power_wrong(court, best, many))
                    self.assertEqual(one + other, more)
                    self.assertGreaterEqual(one, 0)
                    self.assertEqual(one == 0, table == best)
                    if support.is_rising(court, [value(award) for award in table]):
                        self.assertGreaterEqual(other, 0)
                self.same(power_parts(court, dealing, table, 2), price_parts(court, dealing, table))

    def test_least_of_all_rising_tables(self):
        for court in [shifted(court, (20, 3)) for court in EXAMPLES[:-1] + (HIGH,) + tuple(made_courts(25, 1, 3, seed=127))]:
            levels = {level(court, lot) for lot in all_lots(len(court))[1:]}
            best = best_table(court)
            for many in (2, 3, 4):
                least = value(power_wrong(court, best, many))
                for table in product(levels, repeat=len(court)):
                    if support.is_rising(court, table):
                        wrong = sum(case[0] * power(case, award, many) for case, award in zip(court, table))
                        self.assertGreaterEqual(wrong, least)
                        self.assertEqual(wrong == least, tuple(map(quotient, table)) == best)

    def test_by_hand(self):
        self.same([power_wrong(HIGH, ((1, 1), (4, 1)), many) for many in (2, 3, 4)], [(0, 1)] * 3)
        # 2 (1 - 16 + 4 * 8) = 34 at the right award 1, and 256 - 16 - 4 * 8 * 2 = 176 at 4.
        self.same(power_wrong(HIGH, ((2, 1), (2, 1)), 4), (210, 1))

    def test_refusals(self):
        good_court = shifted(MIXED, (10, 1))
        table = best_table(good_court)
        low = ((0, 1),) + table[1:], table[:-1] + ((-1, 3),)
        tables = wrong_tables(good_court) + low
        good = {"court": good_court, "table": table, "many": 3}
        self.check_parameters(power_wrong, good, {"table": tables, "many": WRONG_POWERS})
        dealing = dealing_of(good_court)
        good = {"court": good_court, "dealing": dealing, "table": table, "many": 4}
        self.check_parameters(power_parts, good, {"dealing": altered(dealing), "table": tables, "many": WRONG_POWERS})

    def test_rights_that_are_not_above_nought(self):
        for court in (PAIR, PAIR[::-1], CHAIN, MIXED, shifted(PAIR, (-1, 1)), shifted(HIGH, (-9, 1))):
            for table, many in ((((1, 1),) * len(court), 2), (None, None)):
                self.refuses("court", power_wrong, court, table, many)
                self.refuses("court", power_wrong, many=many, table=table, court=court)
                for dealing in (dealing_of(court), None):
                    self.refuses("court", power_parts, court, dealing, table, many)
                    self.refuses("court", power_parts, court=court, dealing=dealing, table=table, many=many)
        self.same(power_wrong(shifted(PAIR, (1, 10 ** 9)), ((1, 2), (1, 2)), 2)[1] > 0, True)
