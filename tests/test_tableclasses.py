"""[42] Table."""

import random

from oneistrue.best import best_table
from oneistrue.courtclasses import Court
from oneistrue.orderclasses import Order
from oneistrue.tableclasses import Table
from oneistrue.tables import is_rising, pulls_of, wrong_of
from tests import support
from tests.support import (
    ANYTHING, CHAIN, COIN, COPY, EXAMPLES, MIXED, PAIR, SEEN, WRONG_COURTS, WRONG_QUOTIENTS, Case, all_lots, made_courts,
    made_right, made_table, quotient, value, wrong_cases, wrong_lots, wrong_tables,
)

COURTS = EXAMPLES + tuple(made_courts(60, 1, 6, seed=91))
HALVES = ((1, 2), (1, 2))


class TableTest(Case):
    def both(self, seed):
        """Pairs of a court and two of its tables."""
        dice = random.Random(seed)
        return [(court, made_table(dice, len(court)), made_table(dice, len(court))) for court in COURTS]

    def test_no_court_or_no_table(self):
        for bad in WRONG_COURTS + (Court(PAIR), Order(PAIR)):
            self.refuses("court", Table, bad, HALVES)
            self.refuses("court", Table, bad, None)
            self.refuses("court", Table, court=bad, table=None)
        for court in (PAIR, MIXED):
            for bad in wrong_tables(court) + (Table(PAIR, HALVES),):
                self.refuses("table", Table, court, bad)
                self.refuses("table", Table, court=court, table=bad)

    def test_properties(self):
        rises = []
        for court, table, _ in self.both(92):
            for awards in (table, best_table(court)):
                one = Table(court, awards)
                self.same(one.inner, (court, awards))
                self.same(one.pulls, pulls_of(court, awards))
                self.same(one.pulls, tuple(map(quotient, support.pulls(court, [value(a) for a in awards]))))
                self.same(one.wrong, wrong_of(court, awards))
                self.same(one.rises, is_rising(court, awards))
                self.same(len(one), len(court))
                self.same(list(one), list(awards))
                self.same([one[here] for here in range(len(court))], list(awards))
                self.same(Table(table=awards, court=court) == one, True)
                rises.append(one.rises)
        self.assertEqual(set(rises), {True, False})

    def test_properties_are_not_assigned(self):
        for name in ("inner", "pulls", "wrong", "rises"):
            self.assertIsInstance(vars(Table)[name], property)
            with self.assertRaises(AttributeError):
                setattr(Table(PAIR, HALVES), name, 0)

    def test_award_of_no_case(self):
        for bad in wrong_cases(MIXED):
            self.refuses("here", Table(MIXED, best_table(MIXED)).__getitem__, bad)

    def test_equality(self):
        one = Table(PAIR, HALVES)
        self.same(one == Table(PAIR, HALVES), True)
        self.same(one != Table(PAIR, HALVES), False)
        self.same(one == Table(PAIR, ((1, 2), (1, 3))), False)
        self.same(one == Table(COPY, HALVES), False)
        self.same(one != Table(SEEN, HALVES), True)
        for thing in ANYTHING + (HALVES, (PAIR, HALVES), Court(PAIR), Order(PAIR)):
            self.same(one == thing, False)
            self.same(thing == one, False)
            self.same(one != thing, True)

    def test_at_most(self):
        told = []
        for court, table, other in self.both(93):
            one = Table(court, table)
            for awards in (other, table, tuple(quotient(value(a) + 1) for a in table), best_table(court)):
                # The other table may be one of any court of as many cases.
                foreign = support.made_court(random.Random(len(told)), len(court))
                expected = all(value(a) <= value(b) for a, b in zip(table, awards))
                self.same(one.at_most(Table(foreign, awards)), expected)
                self.same(one.at_most(other=Table(court, awards)), expected)
                told.append(expected)
        self.assertEqual(set(told), {True, False})
        for bad in ANYTHING + (HALVES, Court(PAIR), Order(PAIR), Table(COIN, best_table(COIN)), Table(PAIR[:1], HALVES[:1])):
            self.refuses("other", Table(PAIR, HALVES).at_most, bad)
            self.refuses("other", Table(PAIR, HALVES).at_most, other=bad)

    def test_moved(self):
        for court, table, _ in self.both(94):
            one = Table(court, table)
            for lot in all_lots(len(court))[:20]:
                for by in ((1, 2), (-7, 3), (0, 1)):
                    awards = tuple(quotient(value(a) + value(by)) if k in lot else a for k, a in enumerate(table))
                    self.same(one.moved(lot, by).inner, (court, awards))
                    self.same(one.moved(by=by, lot=lot).inner, (court, awards))
            self.same(one.inner, (court, table))
        self.check_parameters(
            Table(MIXED, best_table(MIXED)).moved, {"lot": (0, 1), "by": (1, 2)},
            {"lot": wrong_lots(MIXED), "by": WRONG_QUOTIENTS},
        )

    def test_least_and_greatest(self):
        for court, table, other in self.both(95):
            one, two = Table(court, table), Table(court, other)
            least = tuple(min(a, b, key=value) for a, b in zip(table, other))
            greatest = tuple(max(a, b, key=value) for a, b in zip(table, other))
            self.same(one.least_of(two).inner, (court, least))
            self.same(one.greatest_of(two).inner, (court, greatest))
            self.same(two.least_of(other=one).inner, (court, least))
            self.same(two.greatest_of(other=one).inner, (court, greatest))
        one = Table(PAIR, HALVES)
        foreign = (Table(COPY, HALVES), Table(SEEN, HALVES), Table(COIN, best_table(COIN)), Court(PAIR), HALVES)
        for bad in ANYTHING + foreign:
            for method in (one.least_of, one.greatest_of):
                self.refuses("other", method, bad)
                self.refuses("other", method, other=bad)

    def test_cut_off(self):
        dice = random.Random(96)
        for court, table, _ in self.both(97):
            least, most = sorted((made_right(dice), made_right(dice)), key=value)
            awards = tuple(quotient(min(max(value(a), value(least)), value(most))) for a in table)
            self.same(Table(court, table).cut_off(least, most).inner, (court, awards))
            self.same(Table(court, table).cut_off(most=most, least=least).inner, (court, awards))
            self.same(list(Table(court, table).cut_off(least, least)), [least] * len(court))
        self.check_parameters(
            Table(CHAIN, best_table(CHAIN)).cut_off, {"least": (1, 3), "most": (1, 2)},
            {"least": WRONG_QUOTIENTS, "most": WRONG_QUOTIENTS + ((1, 4), (-1, 1))},
        )
