"""[36] best, [37] pools, [38] strains; (G2), (G5), (G8), and the consequences of [32] that speak of best tables."""

import random
from fractions import Fraction
from itertools import product

from oneistrue.best import best_table, least_wrong, off_share
from oneistrue.bundles import joined
from oneistrue.levels import level_of
from oneistrue.meetings import meeting
from oneistrue.merging import halved, merged, renamed, turned
from oneistrue.orders import parting
from oneistrue.pools import pool_at, pools_of, steps_of
from oneistrue.strains import largest_lot, smallest_lot, strain_of, strained_lots
from oneistrue.tables import pulls_of
from oneistrue.twins import claimant_twin, defendant_twin
from tests import support
from tests.support import (
    CHAIN, COIN, COPY, EXAMPLES, MIXED, PAIR, SEEN, WRONG_QUOTIENTS, Case, all_alike, all_lots, chain, components, level,
    made_courts, quotient, unlike, value, wrong_cases, wrong_lots,
)
from tests.test_leans import great_courts

COURTS = EXAMPLES + tuple(made_courts(120, 1, 6, seed=61)) + tuple(made_courts(12, 7, 8, seed=62))
STAKES = ((0, 1), (1, 2), (-3, 1), (7, 3), (2, 1), (1, 1), (-1, 1), (100, 1), (-100, 1))


def best_of_chain(court):
    """Neighbours are pooled as long as one has a lesser level than the next one."""
    blocks = []
    for here in range(len(court)):
        blocks.append([here])
        while len(blocks) > 1 and level(court, blocks[-2]) < level(court, blocks[-1]):
            last = blocks.pop()
            blocks[-1] = blocks[-1] + last
    return tuple(quotient(level(court, block)) for block in blocks for _ in block)


def best_by_lots(court):
    """(G5): the greatest, over upper lots with the case, of the least, over lower ones, of the common level."""
    lots = all_lots(len(court))
    highs = [set(lot) for lot in lots if support.is_upper(court, lot)]
    lows = [set(lot) for lot in lots if support.is_lower(court, lot)]
    known = {lot: level(court, lot) for lot in lots[1:]}
    return tuple(
        quotient(max(
            min(known[tuple(sorted(high & low))] for low in lows if here in low) for high in highs if here in high
        ))
        for here in range(len(court))
    )


class BestTest(Case):
    def test_no_rising_table_does_less_wrong(self):
        for court in list(EXAMPLES[:-1]) + made_courts(60, 1, 3, seed=63):
            levels = sorted({level(court, lot) for lot in all_lots(len(court))[1:]})
            best = best_table(court)
            awards = [value(award) for award in best]
            self.assertTrue(support.is_rising(court, awards))
            least = support.wrong(court, awards)
            self.same(least_wrong(court), quotient(least))
            pairs = support.order(court)
            for table in product(levels, repeat=len(court)):
                if all(table[d] >= table[c] for d, c in pairs) and list(table) != awards:
                    self.assertGreater(support.wrong(court, table), least)

    def test_by_lots(self):
        for court in list(EXAMPLES) + made_courts(60, 3, 5, seed=64):
            self.same(best_table(court), best_by_lots(court))

    def test_rising_and_balanced(self):
        for court in list(COURTS) + great_courts(30, 65):
            best = best_table(court)
            awards = [value(award) for award in best]
            self.assertTrue(support.is_rising(court, awards))
            self.same(best, tuple(map(quotient, awards)))
            self.same(least_wrong(court), quotient(support.wrong(court, awards)))
            pulls = [case[0] * support.lean(case, award) for case, award in zip(court, awards)]
            highs = support.uppers(court)
            for award in set(awards):
                step = {k for k in range(len(court)) if awards[k] == award}
                self.assertEqual(sum(pulls[k] for k in step), 0)
                for high in highs:
                    self.assertGreaterEqual(sum(pulls[k] for k in step & set(high)), 0)

    def test_what_the_document_tells_of_its_examples(self):
        self.same(best_table(PAIR), ((1, 2), (1, 2)))
        self.same(pulls_of(PAIR, best_table(PAIR)), ((1, 2), (-1, 2)))
        self.same(best_table(COIN), ((1, 1), (1, 1), (1, 1)))
        for court in (COPY, SEEN):
            self.same(best_table(court), ((0, 1), (1, 1)))

    def test_eight_alike(self):
        for seed in range(20):
            court = all_alike(seed)
            whole = quotient(level(court, tuple(range(8))))
            self.same(best_table(court), (whole,) * 8)
            self.same(pools_of(court), (tuple(range(8)),))
            self.same(whole, level_of(court, tuple(range(8))))

    def test_eight_without_a_pair(self):
        for seed in range(20):
            court = unlike(seed)
            self.same(best_table(court), tuple(case[1] for case in court))
            self.same(least_wrong(court), (0, 1))
            self.same(off_share(court), (0, 1))
            self.same(pools_of(court), tuple((k,) for k in range(8)))

    def test_chain_of_eight(self):
        for seed in range(40):
            court = chain(seed)
            self.assertEqual(len(support.order(court)), 28)
            best = best_of_chain(court)
            self.same(best_table(court), best)
            back = renamed(court, tuple(reversed(range(8))))
            self.same(best_table(back), best[::-1])

    def test_off_share(self):
        for court in COURTS:
            best = best_table(court)
            off = sum(case[0] for case, award in zip(court, best) if case[1] != award)
            self.same(off_share(court), quotient(Fraction(off, sum(case[0] for case in court))))

    def test_rights_that_rise_are_the_best_table(self):
        for court in COURTS:
            rising = support.is_rising(court, [value(case[1]) for case in court])
            self.assertEqual(best_table(court) == tuple(case[1] for case in court), rising)

    def test_if_rights_rise_no_best_award_falls(self):
        for court in COURTS[:80]:
            best = [value(award) for award in best_table(court)]
            for here, case in enumerate(court):
                right = quotient(value(case[1]) + Fraction(5, 2))
                risen = court[:here] + ((case[0], right) + case[2:],) + court[here + 1:]
                self.assertTrue(all(value(a) >= b for a, b in zip(best_table(risen), best)))

    def test_court_changes(self):
        for court in COURTS[:80]:
            best = best_table(court)
            self.same(best_table(turned(court)), tuple(quotient(-value(award)) for award in best))
            together, places = merged(court)
            self.same(tuple(best_table(together)[place] for place in places), best)
            for here, case in enumerate(court):
                if case[0] > 1:
                    self.same(best_table(halved(court, here, 1)), best + (best[here],))

    def test_twins_have_the_best_table(self):
        for court in COURTS[:80]:
            for twin in (claimant_twin(court), defendant_twin(court)):
                self.same(best_table(twin), best_table(court))

    def test_rights_of_a_parting(self):
        for size in range(2, 6):
            courts = made_courts(30, size, size, seed=66 + size)
            for court, other in zip(courts[::2], courts[1::2]):
                result = parting(court, other)
                if result is not None:
                    here, there, rights = result
                    lacking = other if (here, there) in support.order(court) else court
                    having = court if lacking is other else other
                    for told, is_best in ((lacking, True), (having, False)):
                        told = tuple((case[0], right) + case[2:] for case, right in zip(told, rights))
                        self.assertEqual(best_table(told) == rights, is_best)

    def test_meetings(self):
        for court in COURTS[:60]:
            for here, there in support.order(court):
                self.same(best_table(meeting(court, here, there)), ((1, 2),) * len(court))

    def test_joined(self):
        for court, other in zip(made_courts(30, 1, 4, seed=71), made_courts(30, 1, 4, seed=72)):
            self.same(best_table(joined(court, other)), best_table(court) + best_table(other))


class PoolsTest(Case):
    def test_by_definition(self):
        for court in COURTS:
            best = best_table(court)
            pairs = [(d, c) for d, c in support.order(court) if best[d] == best[c]]
            pools = components(len(court), pairs)
            self.same(pools_of(court), pools)
            for here in range(len(court)):
                self.same(pool_at(court, here), [pool for pool in pools if here in pool][0])

    def test_pools_of_one_award(self):
        court = PAIR + tuple(case[:4] + (9,) for case in PAIR)
        self.same(pools_of(court), ((0, 1), (2, 3)))
        self.same(steps_of(court), (((1, 2), (0, 1, 2, 3)),))
        self.same([pool_at(court, here) for here in range(4)], [(0, 1), (0, 1), (2, 3), (2, 3)])

    def test_a_pool_hangs_together_within_itself(self):
        # 0 hides under 1 and 2; 1 and 2, of one award, hang together by 0 alone, which has another one.
        court = (
            (1, (5, 1), (1, 1), ((1, 1), ()), 0), (1, (2, 1), (1, 1), ((1, 0), ()), 0), (1, (2, 1), (1, 1), ((0, 1), ()), 0),
        )
        self.same(pools_of(court), ((0,), (1,), (2,)))
        self.same(steps_of(court), (((2, 1), (1, 2)), ((5, 1), (0,))))

    def test_steps(self):
        for court in COURTS:
            best = best_table(court)
            awards = sorted({value(award) for award in best})
            steps = tuple(
                (quotient(award), tuple(k for k in range(len(court)) if value(best[k]) == award)) for award in awards
            )
            self.same(steps_of(court), steps)

    def test_steps_ascend_by_value(self):
        court = tuple((1, right, (1, 1), ((), ()), at) for at, right in enumerate(((1, 2), (1, 3), (-1, 2), (2, 5))))
        self.same([step[0] for step in steps_of(court)], [(-1, 2), (1, 3), (2, 5), (1, 2)])

    def test_refusals(self):
        self.check_parameters(pool_at, {"court": MIXED, "here": 2}, {"here": wrong_cases(MIXED)})


class StrainsTest(Case):
    def test_strain_of(self):
        for court in COURTS:
            for lot in all_lots(len(court))[:30]:
                for stake in STAKES:
                    self.same(strain_of(court, lot, stake), quotient(support.strain(court, lot, value(stake))))
        self.same(strain_of(MIXED, (), (5, 1)), (0, 1))

    def test_smallest_and_largest(self):
        for court in COURTS:
            best = best_table(court)
            for stake in STAKES + best:
                over = tuple(k for k, award in enumerate(best) if value(award) > value(stake))
                at_least = tuple(k for k, award in enumerate(best) if value(award) >= value(stake))
                self.same(smallest_lot(court, stake), over)
                self.same(largest_lot(court, stake), at_least)

    def test_strained_lots(self):
        for court in COURTS:
            highs = support.uppers(court)
            for stake in (STAKES[:4] if len(court) > 6 else STAKES) + best_table(court)[:4]:
                strains = [support.strain(court, lot, value(stake)) for lot in highs]
                told = [lot for lot, strain in zip(highs, strains) if strain == min(strains)]
                self.same(strained_lots(court, stake), tuple(sorted(told)))
                self.assertIn(smallest_lot(court, stake), told)
                self.assertIn(largest_lot(court, stake), told)
                for lot in told:
                    self.assertLessEqual(set(smallest_lot(court, stake)), set(lot))
                    self.assertLessEqual(set(lot), set(largest_lot(court, stake)))

    def test_nothing_and_all(self):
        self.same(strained_lots(CHAIN, (100, 1)), ((),))
        self.same(strained_lots(CHAIN, (-100, 1)), ((0, 1, 2),))
        self.same(strained_lots(COIN, (0, 1)), ((0, 1, 2),))

    def test_refusals(self):
        wrong = {"lot": wrong_lots(MIXED), "stake": WRONG_QUOTIENTS}
        self.check_parameters(strain_of, {"court": MIXED, "lot": (0, 1), "stake": (1, 2)}, wrong)
        for function in (smallest_lot, largest_lot, strained_lots):
            self.check_parameters(function, {"court": MIXED, "stake": (1, 2)}, {"stake": WRONG_QUOTIENTS})
