"""[39] cuts, [40] maxmins, [41] limited, and the consequences [42] that speak of them; (G5)."""

import random
from itertools import product

from oneistrue.best import best_table, least_wrong
from oneistrue.courts import kept
from oneistrue.cuts import cut_all, cut_down, cut_lot
from oneistrue.levels import level_of
from oneistrue.limited import best_between, scaled, shifted
from oneistrue.maxmins import best_lots, bottom_award, common_level, top_award
from oneistrue.pools import pools_of, steps_of
from oneistrue.tables import pulls_of
from tests import support
from tests.support import (
    CHAIN, COIN, EXAMPLES, FOUR, HIGH, MIXED, PAIR, SEEN, WRONG_QUOTIENTS, Case, all_alike, all_lots, chain,
    crowded_courts, level, made_courts, made_right, quotient, unlike, value, wrong_cases, wrong_lots,
)

FAMILIES = tuple(make(seed) for seed in (1, 2) for make in (all_alike, unlike, chain))
SMALL = EXAMPLES + (FOUR, HIGH) + tuple(made_courts(50, 1, 5, seed=81)) + tuple(crowded_courts(25, 2, 5, seed=82))
COURTS = SMALL + FAMILIES + tuple(made_courts(10, 6, 8, seed=83)) + tuple(crowded_courts(10, 6, 8, seed=84))


def uppers_within(court, lot):
    """All sets of cases of lot that have with a case all cases of lot that hide under it."""
    pairs = [(d, c) for d, c in support.order(court) if d in lot and c in lot]
    sets = [tuple(k for at, k in enumerate(lot) if mask >> at & 1) for mask in range(2 ** len(lot))]
    return [part for part in sets if all(d in part for d, c in pairs if c in part)]


def cut(court, lot, stake):
    """cut_lot by its definition."""
    parts = uppers_within(court, lot)
    strains = [support.strain(court, part, value(stake)) for part in parts]
    least = [part for part, strain in zip(parts, strains) if strain == min(strains)]
    greatest = [part for part in least if all(set(other) <= set(part) for other in least)]
    return greatest[0], tuple(k for k in lot if k not in greatest[0])


def cut_by_levels(court, lot):
    own = quotient(level(court, lot))
    above, below = cut(court, lot, own)
    if not below:
        return [(lot, own)]
    return cut_by_levels(court, above) + cut_by_levels(court, below)


class CutsTest(Case):
    def test_cut_lot_by_definition(self):
        dice = random.Random(85)
        for court in SMALL + FAMILIES:
            lots = all_lots(len(court))[1:]
            for lot in dice.sample(lots, min(6, len(lots))) + [tuple(range(len(court)))]:
                for stake in (quotient(level(court, lot)), dice.choice(court)[1], made_right(dice)):
                    self.same(cut_lot(court, lot, stake), cut(court, lot, stake))

    def test_either_part_may_be_empty(self):
        self.same(cut_lot(CHAIN, (0, 2), (100, 1)), ((), (0, 2)))
        self.same(cut_lot(CHAIN, (0, 2), (-100, 1)), ((0, 2), ()))
        self.same(cut_lot(PAIR, (1,), (1, 1)), ((1,), ()))
        self.same(cut_lot(PAIR, (1,), (2, 1)), ((), (1,)))

    def test_cut_all_by_definition(self):
        dice = random.Random(86)
        for court in SMALL + FAMILIES[:3]:
            stakes = tuple(dice.choice((made_right(dice), dice.choice(court)[1])) for _ in range(dice.randint(0, 4)))
            for told in (stakes, stakes[::-1], best_table(court)):
                lots = [tuple(range(len(court)))]
                for stake in told:
                    lots = [part for lot in lots for part in cut(court, lot, stake) if part]
                self.same(cut_all(court, told), tuple(sorted(lots)))

    def test_cut_all_parts_by_best_awards(self):
        dice = random.Random(87)
        for court in COURTS:
            best = [value(award) for award in best_table(court)]
            stakes = tuple(made_right(dice) for _ in range(dice.randint(0, 5))) + best_table(court)[:2]
            names = [tuple(value(stake) > award for stake in stakes) for award in best]
            lots = {tuple(k for k in range(len(court)) if names[k] == name) for name in names}
            self.same(cut_all(court, stakes), tuple(sorted(lots)))
        self.same(cut_all(COIN, ()), ((0, 1, 2),))

    def test_cut_down(self):
        for court in COURTS:
            self.same(cut_down(court), tuple(sorted((lot, award) for award, lot in steps_of(court))))
        for court in SMALL:
            self.same(cut_down(court), tuple(sorted(cut_by_levels(court, tuple(range(len(court)))))))

    def test_whole_steps_taken_alone(self):
        for court in COURTS:
            steps = steps_of(court)
            for low in range(len(steps)):
                for high in range(low + 1, len(steps) + 1):
                    lot = tuple(sorted(k for _, step in steps[low:high] for k in step))
                    best = best_table(court)
                    self.same(best_table(kept(court, lot)), tuple(best[k] for k in lot))

    def test_refusals(self):
        wrong = {"lot": wrong_lots(MIXED) + ((),), "stake": WRONG_QUOTIENTS}
        self.check_parameters(cut_lot, {"court": MIXED, "lot": (0, 1), "stake": (1, 2)}, wrong)
        stakes = tuple((bad,) for bad in WRONG_QUOTIENTS) + tuple(((1, 2), bad, (1, 3)) for bad in WRONG_QUOTIENTS)
        stakes += (None, True, 0, "", [], [(1, 2)], (1, 2), ((1, 2), [1, 2]))
        self.check_parameters(cut_all, {"court": MIXED, "stakes": ((1, 2), (1, 2))}, {"stakes": stakes})


class MaxminsTest(Case):
    def test_common_level(self):
        for court in SMALL:
            lots = all_lots(len(court))
            for upper in lots:
                for lower in lots:
                    if not support.is_upper(court, upper):
                        self.refuses("upper", common_level, court, upper, lower)
                        break
                    both = tuple(k for k in upper if k in lower)
                    if support.is_lower(court, lower) and both:
                        self.same(common_level(court, upper, lower), quotient(level(court, both)))
                    else:
                        self.refuses("lower", common_level, court, upper, lower)

    def test_best_awards_by_common_levels(self):
        for court in SMALL:
            uppers = [lot for lot in all_lots(len(court)) if support.is_upper(court, lot)]
            lowers = [lot for lot in all_lots(len(court)) if support.is_lower(court, lot)]
            for here, best in enumerate(best_table(court)):
                highs, lows = [lot for lot in uppers if here in lot], [lot for lot in lowers if here in lot]
                table = [[value(common_level(court, high, low)) for low in lows] for high in highs]
                self.same(quotient(max(min(row) for row in table)), best)
                self.same(quotient(min(max(column) for column in zip(*table))), best)
                high, low = best_lots(court, here)
                self.same(common_level(court, high, low), best)
                self.assertEqual(min(table[highs.index(high)]), value(best))
                self.assertEqual(max(row[lows.index(low)] for row in table), value(best))

    def test_best_lots(self):
        for court in COURTS:
            best = [value(award) for award in best_table(court)]
            for here in range(len(court)):
                at_least = tuple(k for k in range(len(court)) if best[k] >= best[here])
                at_most = tuple(k for k in range(len(court)) if best[k] <= best[here])
                self.same(best_lots(court, here), (at_least, at_most))

    def test_bottom_and_top(self):
        for court in COURTS:
            best = best_table(court)
            self.same(bottom_award(court), min(best, key=value))
            self.same(top_award(court), max(best, key=value))
        for court in SMALL:
            lots = all_lots(len(court))[1:]
            self.same(bottom_award(court), quotient(min(level(court, k) for k in lots if support.is_lower(court, k))))
            self.same(top_award(court), quotient(max(level(court, k) for k in lots if support.is_upper(court, k))))

    def test_by_value(self):
        court = tuple((1, right, (1, 1), ((), ()), at) for at, right in enumerate(((1, 2), (1, 3), (2, 5), (-1, 2), (-2, 3))))
        self.same((bottom_award(court), top_award(court)), ((-2, 3), (1, 2)))
        self.same(best_lots(court, 2), ((0, 2), (1, 2, 3, 4)))

    def test_refusals(self):
        for bad in wrong_cases(MIXED):
            self.refuses("here", best_lots, MIXED, bad)
            self.refuses("here", best_lots, court=MIXED, here=bad)
        lots = wrong_lots(CHAIN)
        wrong = {"upper": lots + ((1,), (2,), (1, 2), (0, 2)), "lower": lots + ((0,), (0, 1), (0, 2), (1,), ())}
        self.check_parameters(common_level, {"court": CHAIN, "upper": (0, 1), "lower": (1, 2)}, wrong)
        # What both are lots, but have no case in common, is told behind a bad upper lot.
        self.refuses("lower", common_level, CHAIN, (0, 1), (2,))
        self.refuses("lower", common_level, CHAIN, (), (0, 1, 2))
        self.refuses("lower", common_level, SEEN, (0,), (1,))
        self.refuses("upper", common_level, CHAIN, (1,), (2,))


def clamped(table, least, most):
    return tuple(quotient(min(max(value(award), value(least)), value(most))) for award in table)


class LimitedTest(Case):
    def test_no_rising_table_between_does_less_wrong(self):
        dice = random.Random(88)
        for court in EXAMPLES[:-1] + (HIGH,) + tuple(made_courts(40, 1, 3, seed=89)):
            low, high = sorted((value(made_right(dice)), value(made_right(dice))))
            least, most = quotient(low), quotient(high)
            levels = {level(court, lot) for lot in all_lots(len(court))[1:]} | {low, high}
            result = best_between(court, least, most)
            wrong = support.wrong(court, [value(award) for award in result])
            for table in product([award for award in levels if low <= award <= high], repeat=len(court)):
                if support.is_rising(court, table) and tuple(map(quotient, table)) != result:
                    self.assertGreater(support.wrong(court, table), wrong)

    def test_the_best_table_cut_off(self):
        dice = random.Random(90)
        for court in COURTS:
            least, most = sorted((made_right(dice), made_right(dice)), key=value)
            self.same(best_between(court, least, most), clamped(best_table(court), least, most))
            self.same(best_between(court, least, least), (least,) * len(court))
            self.same(best_between(court, bottom_award(court), top_award(court)), best_table(court))
            self.same(best_between(court, (-1000, 1), (1000, 1)), best_table(court))

    def test_shifted(self):
        for court in COURTS:
            for by in ((0, 1), (5, 3), (-7, 2)):
                result = shifted(court, by)
                rights = [quotient(value(case[1]) + value(by)) for case in court]
                self.same(result, tuple(case[:1] + (right,) + case[2:] for case, right in zip(court, rights)))
                self.same(best_table(result), tuple(quotient(value(award) + value(by)) for award in best_table(court)))
                self.same(least_wrong(result), least_wrong(court))

    def test_scaled(self):
        for court in COURTS:
            for by in ((1, 1), (5, 3), (1, 7)):
                result = scaled(court, by)
                rights = [quotient(value(case[1]) * value(by)) for case in court]
                self.same(result, tuple(case[:1] + (right,) + case[2:] for case, right in zip(court, rights)))
                self.same(best_table(result), tuple(quotient(value(award) * value(by)) for award in best_table(court)))
                self.same(least_wrong(result), quotient(value(least_wrong(court)) * value(by) ** 2))

    def test_refusals(self):
        good = {"court": MIXED, "least": (1, 3), "most": (1, 2)}
        wrong = {"least": WRONG_QUOTIENTS, "most": WRONG_QUOTIENTS + ((1, 4), (33, 100), (-1, 1))}
        self.check_parameters(best_between, good, wrong)
        self.same(best_between(PAIR, (1, 3), (1, 3)), ((1, 3), (1, 3)))
        self.check_parameters(shifted, {"court": MIXED, "by": (-1, 2)}, {"by": WRONG_QUOTIENTS})
        self.check_parameters(scaled, {"court": MIXED, "by": (1, 2)}, {"by": WRONG_QUOTIENTS + ((0, 1), (-1, 2), (-3, 1))})


class PoolsOfTheBestTableTest(Case):
    def test_pulls_over_pools(self):
        for court in COURTS:
            best = best_table(court)
            pulls = [value(pull) for pull in pulls_of(court, best)]
            for pool in pools_of(court):
                self.same(level_of(court, pool), best[pool[0]])
                self.assertEqual(sum(pulls[k] for k in pool), 0)
                for part in uppers_within(court, pool):
                    self.assertGreaterEqual(sum(pulls[k] for k in part), 0)
                    self.assertLessEqual(sum(pulls[k] for k in pool if k not in part), 0)
