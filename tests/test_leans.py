"""[33] leans, [34] levels."""

import random
from fractions import Fraction

from oneistrue.leans import bend_at, lean_at, wrong_at
from oneistrue.levels import level_by, level_of
from tests import support
from tests.support import (
    EXAMPLES, MIXED, PAIR, STEEP, WRONG_QUOTIENTS, Case, all_lots, made_court, made_courts, made_right, quotient, value,
    wrong_cases, wrong_lots, wrong_tables,
)

COURTS = EXAMPLES + tuple(made_courts(100, 1, 6, seed=41))
AWARDS = ((0, 1), (1, 2), (-3, 1), (7, 3), (10 ** 15, 3), (-1, 10 ** 15))


def great_courts(many, seed):
    """Courts with right awards of great tops and bottoms, and factors up and down that differ."""
    dice = random.Random(seed)
    courts = []
    for _ in range(many):
        court = made_court(dice, dice.randint(1, 8))
        rights = [quotient(Fraction(dice.randint(-(10 ** 15), 10 ** 15), dice.randint(1, 10 ** 15))) for _ in court]
        courts.append(tuple(
            (dice.randint(1, 60), right, (dice.randint(1, 60), dice.randint(1, 60))) + case[3:]
            for case, right in zip(court, rights)
        ))
    return courts


class LeansTest(Case):
    def test_by_definition(self):
        for court in COURTS:
            for here, case in enumerate(court):
                right = value(case[1])
                for award in AWARDS + (case[1],):
                    gap = value(award) - right
                    factor = case[2][0] if gap >= 0 else case[2][1]
                    self.same(wrong_at(court, here, award), quotient(factor * gap ** 2))
                    self.same(lean_at(court, here, award), quotient(factor * gap))

    def test_at_the_right_award(self):
        self.same(wrong_at(STEEP, 1, (1, 1)), (0, 1))
        self.same(lean_at(STEEP, 1, (1, 1)), (0, 1))

    def test_bend_by_definition(self):
        for court in COURTS[:60]:
            for here, case in enumerate(court):
                for award in AWARDS + (case[1],):
                    for to in AWARDS + (case[1],):
                        a, b = value(award), value(to)

                        def wrong(x):
                            return support.lean(case, x) * (x - value(case[1]))

                        bend = wrong(b) - wrong(a) - 2 * (b - a) * support.lean(case, a)
                        self.same(bend_at(court, here, award, to), quotient(bend))
                        self.assertGreaterEqual(bend, 0)
                        self.assertEqual(bend == 0, a == b)

    def test_the_weight_does_not_count(self):
        heavy = tuple((9,) + case[1:] for case in STEEP)
        for here in (0, 1):
            self.same(wrong_at(heavy, here, (1, 2)), wrong_at(STEEP, here, (1, 2)))
            self.same(lean_at(heavy, here, (1, 2)), lean_at(STEEP, here, (1, 2)))
            self.same(bend_at(heavy, here, (1, 2), (-1, 2)), bend_at(STEEP, here, (1, 2), (-1, 2)))

    def test_refusals(self):
        wrong = {"here": wrong_cases(MIXED), "award": WRONG_QUOTIENTS, "to": WRONG_QUOTIENTS}
        for function in (wrong_at, lean_at):
            self.check_parameters(function, {"court": MIXED, "here": 2, "award": (1, 2)}, wrong)
        self.check_parameters(bend_at, {"court": MIXED, "here": 2, "award": (1, 2), "to": (1, 2)}, wrong)


class LevelsTest(Case):
    def check_level(self, court, weights, level):
        """Weights times leans add up to 0 at the level."""
        level = value(level)
        self.assertEqual(sum(weight * support.lean(case, level) for weight, case in zip(weights, court)), 0)

    def test_level_of(self):
        for court in COURTS:
            for lot in all_lots(len(court))[1:]:
                level = level_of(court, lot)
                self.same(level, quotient(value(level)))
                self.check_level(court, [case[0] if k in lot else 0 for k, case in enumerate(court)], level)

    def test_level_of_great_numbers(self):
        for court in great_courts(60, 42):
            for lot in all_lots(len(court))[1::5]:
                level = level_of(court, lot)
                self.same(level, quotient(value(level)))
                self.check_level(court, [case[0] if k in lot else 0 for k, case in enumerate(court)], level)

    def test_level_by(self):
        dice = random.Random(43)
        for court in list(COURTS) + great_courts(40, 44):
            for _ in range(10):
                weights = [
                    dice.choice((Fraction(0), Fraction(dice.randint(1, 9), dice.randint(1, 9)),
                                 Fraction(dice.randint(1, 10 ** 15), dice.randint(1, 10 ** 15))))
                    for _ in court
                ]
                if any(weights):
                    level = level_by(court, tuple(map(quotient, weights)))
                    self.same(level, quotient(value(level)))
                    self.check_level(court, weights, level)

    def test_level_by_of_one_case(self):
        for court in COURTS:
            for here, case in enumerate(court):
                weights = tuple((3, 7) if k == here else (0, 1) for k in range(len(court)))
                self.same(level_by(court, weights), case[1])
                self.same(level_of(court, (here,)), case[1])

    def test_own_weights(self):
        for court in COURTS:
            weights = tuple((case[0], 1) for case in court)
            halves = tuple(quotient(Fraction(case[0], 2)) for case in court)
            lot = tuple(range(len(court)))
            self.same(level_by(court, weights), level_of(court, lot))
            self.same(level_by(court, halves), level_of(court, lot))

    def test_refusals(self):
        for court in (PAIR, MIXED):
            self.check_parameters(level_of, {"court": court, "lot": (0, 1)}, {"lot": wrong_lots(court) + ((),)})
            good = tuple((1, 2) for _ in court)
            noughts = tuple((0, 1) for _ in court)
            below = (noughts, good[:-1] + ((-1, 2),), ((-3, 1),) + good[1:], noughts[:-1] + ((-1, 1),))
            self.check_parameters(level_by, {"court": court, "weights": good}, {"weights": wrong_tables(court) + below})
