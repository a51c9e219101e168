"""[43] dealchecker, [44] dealing, [45] forests; (G2), (G6), and the consequences [52] that speak of them."""

import random

from oneistrue.best import best_table
from oneistrue.dealchecker import is_dealing, lets_dealing
from oneistrue.dealing import deal_out, dealing_of
from oneistrue.errors import NotBest
from oneistrue.forests import forest_of, ring_of
from oneistrue.hiding import order_of
from oneistrue.meetings import meeting
from oneistrue.pools import pool_at, pools_of
from oneistrue.strains import strained_lots
from oneistrue.tables import first_fall, is_rising
from tests import support
from tests.support import (
    ANYTHING, CHAIN, COIN, COPY, EXAMPLES, FOUR, HIGH, MIXED, PAIR, ROUND, SEEN, Case, all_alike, altered, chain,
    crowded_courts, made_courts, quotient, rising_table, unlike, value, wrong_tables,
)

FAMILIES = tuple(make(seed) for seed in (3, 4) for make in (all_alike, unlike, chain))
COURTS = EXAMPLES + (FOUR, HIGH) + FAMILIES + tuple(made_courts(45, 1, 8, seed=101)) + tuple(crowded_courts(45, 2, 8, seed=102))
DEALT = ((0, 1, (1, 2)),)
HALVES = ((1, 2), (1, 2))
# Cases 0 and 1 give 1 / 2 each, 2 and 3 take as much; 0 hides under 2 and 3, 1 under 3 alone, and 4 is apart.
LEANING = (
    (1, (0, 1), (1, 1), ((1, 1), ()), 0), (1, (0, 1), (1, 1), ((0, 1), ()), 0), (1, (1, 1), (1, 1), ((1, 0), ()), 0),
    (1, (1, 1), (1, 1), ((0, 0), ()), 0), (1, (1, 2), (1, 1), ((0, 0), ()), 1),
)


def raises(court, table, lot):
    """Whether the lot raises the rising table, by the words of [44]."""
    awards = [value(award) for award in table]
    if not lot or len({awards[k] for k in lot}) > 1:
        return False
    wanted = [d for d, c in support.order(court) if c in lot and awards[d] == awards[c]]
    return set(wanted) <= set(lot) and sum(support.pulls(court, awards)[k] for k in lot) < 0


def lowers(court, table, lot):
    awards = [value(award) for award in table]
    if not lot or len({awards[k] for k in lot}) > 1:
        return False
    wanted = [c for d, c in support.order(court) if d in lot and awards[d] == awards[c]]
    return set(wanted) <= set(lot) and sum(support.pulls(court, awards)[k] for k in lot) > 0


def moved_as_told(court, table, direction, lot):
    """The table with the lot raised or lowered as the last consequence of [52] tells."""
    awards = [value(award) for award in table]
    to, old = support.level(court, lot), awards[lot[0]]
    if direction == "raise":
        to = min([to] + [award for award in awards if award > old])
    else:
        to = max([to] + [award for award in awards if award < old])
    return tuple(quotient(to) if k in lot else award for k, award in enumerate(table))


def rising_tables(court, seed):
    """Rising tables, the best one and some of few awards among them."""
    dice = random.Random(seed)
    best = best_table(court)
    near = best + tuple(case[1] for case in court) + ((0, 1), (1, 1))
    return [best, (best[0],) * len(court)] + [rising_table(dice, court, near) for _ in range(4)] + [
        rising_table(dice, court) for _ in range(2)
    ]


class CheckerTest(Case):
    def check_fault(self, court, table, thing, word, at):
        self.check_paper(word, at, lets_dealing, court, table, thing)

    def test_shape(self):
        for thing in (None, True, 0, "", "()", [], [(0, 1, (1, 2))], {}):
            self.check_fault(PAIR, HALVES, thing, "shape", -1)

    def test_dispute(self):
        first, second = ROUND[:2]
        bads = (
            None, 0, "abc", (), (0, 2), (0, 2, (1, 4), 0), [0, 2, (1, 4)], (0, 0, (1, 4)), (0, 4, (1, 4)), (-1, 2, (1, 4)),
            (False, 2, (1, 4)), (0, True, (1, 4)), (0, "2", (1, 4)), (0, 2, (0, 1)), (0, 2, (-1, 4)), (0, 2, (2, 8)),
            (0, 2, [1, 4]), (0, 2, 1), (0, 2, None), (0, 2, (True, 4)), ((0, 2), (1, 4)), (None, 2, (1, 4)), (4, 0, (1, 4)),
        )
        for bad in bads:
            self.check_fault(FOUR, (((1, 2),) * 4), (bad,), "dispute", 0)
            self.check_fault(FOUR, (((1, 2),) * 4), (first, bad, None), "dispute", 1)
            self.check_fault(FOUR, (((1, 2),) * 4), (first, second, bad), "dispute", 2)

    def test_sequence(self):
        table = ((1, 2),) * 4
        self.check_fault(FOUR, table, ROUND[:1] + ROUND[:1], "sequence", 1)
        self.check_fault(FOUR, table, (ROUND[1], ROUND[0]), "sequence", 1)
        self.check_fault(FOUR, table, ROUND[:2] + ((0, 1, (1, 4)),), "sequence", 2)
        # The pair alone counts, not the amount.
        self.check_fault(FOUR, table, (ROUND[0], (0, 2, (1, 2))), "sequence", 1)
        # A dispute that does not fit is told ahead of a later one out of its sequence, and the sequence ahead of the order.
        self.check_fault(CHAIN, ((1, 1),) * 3, ((1, 0, (1, 1)), (0, 1, (1, 1))), "order", 0)
        self.check_fault(CHAIN, ((1, 1),) * 3, ((1, 2, (1, 1)), (1, 0, (1, 1))), "sequence", 1)

    def test_order(self):
        self.check_fault(PAIR, HALVES, ((1, 0, (1, 2)),), "order", 0)
        self.check_fault(SEEN, HALVES, DEALT, "order", 0)
        self.check_fault(COIN, ((1, 1),) * 3, ((0, 1, (1, 1)),), "order", 0)
        self.check_fault(COIN, ((1, 1),) * 3, ((0, 2, (1, 1)), (1, 0, (1, 1)), (1, 1, (1, 1))), "order", 1)
        # Ahead of the awards.
        self.check_fault(PAIR, ((1, 1), (0, 1)), ((1, 0, (1, 2)),), "order", 0)

    def test_awards(self):
        self.check_fault(PAIR, ((1, 1), (0, 1)), DEALT, "awards", 0)
        self.check_fault(CHAIN, ((3, 2), (3, 2), (1, 1)), ((0, 1, (3, 2)), (0, 2, (3, 2))), "awards", 1)
        # Ahead of what is wrong with the next one, and ahead of all sums.
        self.check_fault(CHAIN, ((3, 2), (3, 2), (1, 1)), ((0, 2, (3, 2)), None), "awards", 0)

    def test_given(self):
        for wrong in ((), ((0, 1, (1, 3)),), ((0, 1, (1, 1)),)):
            self.check_fault(PAIR, HALVES, wrong, "given", 0)
        table = ((1, 2),) * 4
        self.check_fault(FOUR, table, ((0, 2, (1, 2)),), "given", 1)
        self.check_fault(FOUR, table, ((0, 2, (1, 2)), (0, 3, (1, 2)), (1, 2, (1, 2))), "given", 0)
        # Case 2 takes, and must not give; case 3 has no pull.
        court = FOUR[:3] + ((1, (1, 2), (1, 1), ((), ()), 0),)
        self.check_fault(court, table, ((0, 2, (1, 2)), (1, 2, (1, 2)), (2, 3, (1, 2))), "given", 2)
        self.check_fault(court, table, ((0, 2, (1, 2)), (1, 2, (1, 2))), "taken", 2)
        court = FOUR[:2] + court[3:] + FOUR[2:3]
        self.check_fault(court, table, ((0, 3, (1, 2)), (1, 2, (1, 2)), (2, 3, (1, 2))), "given", 2)
        self.check_fault(court, table, ((0, 3, (1, 2)), (1, 2, (1, 2))), "taken", 2)
        self.check_fault(FOUR, table, ROUND[:2] + ((1, 2, (1, 2)), (2, 3, (1, 4))), "given", 2)

    def test_a_taker_that_gives(self):
        court = (FOUR[2], FOUR[0], FOUR[2], FOUR[0])
        table = ((1, 2),) * 4
        self.check_fault(court, table, ((0, 1, (1, 2)), (1, 0, (1, 2)), (3, 2, (1, 2))), "given", 0)
        self.check_fault(court, table, ((1, 0, (1, 2)), (2, 3, (1, 2)), (3, 2, (1, 2))), "given", 2)
        self.check_fault(court, table, ((1, 0, (1, 2)), (1, 3, (1, 2)), (3, 2, (1, 2))), "given", 1)

    def test_taken(self):
        table = ((1, 2),) * 4
        self.check_fault(FOUR, table, ((0, 2, (1, 2)), (1, 2, (1, 2))), "taken", 2)
        self.check_fault(FOUR, table, ((0, 2, (1, 2)), (1, 2, (1, 4)), (1, 3, (1, 4))), "taken", 2)
        # Case 0, all checks of which come first, gives what it has to, but takes, too.
        self.check_fault(FOUR, table, ((0, 2, (1, 2)), (1, 0, (1, 4)), (1, 3, (1, 4))), "taken", 0)
        # In this table the pull of 1 is not met, and all of 0 comes ahead of it.
        self.check_fault(PAIR, ((1, 1), (1, 1)), ((0, 1, (1, 1)),), "taken", 1)
        self.check_fault(PAIR, ((0, 1), (0, 1)), (), "taken", 1)
        self.check_fault(PAIR, ((2, 1), (2, 1)), ((0, 1, (2, 1)),), "given", 1)

    def test_what_is_let(self):
        self.same(lets_dealing(PAIR, HALVES, DEALT), 1)
        self.same(lets_dealing(FOUR, ((1, 2),) * 4, ROUND), 4)
        self.same(lets_dealing(SEEN, ((0, 1), (1, 1)), ()), 0)
        self.same(lets_dealing(HIGH, ((2, 1), (2, 1)), ((0, 1, (2, 1)),)), 1)

    def test_tables_of_all_sorts(self):
        for court in COURTS:
            for table in rising_tables(court, 103):
                awards = [value(award) for award in table]
                pulls = support.pulls(court, awards)
                triples = tuple(
                    (d, c, quotient(min(pulls[d], -pulls[c]))) for d, c in support.order(court)
                    if awards[d] == awards[c] and pulls[d] > 0 > pulls[c]
                )
                for thing in (triples, dealing_of(court), triples[:1], ()):
                    if support.is_dealing(court, table, thing):
                        self.same(lets_dealing(court, table, thing), len(thing))
                    else:
                        self.raises_paper(court, table, thing)

    def raises_paper(self, court, table, thing):
        with self.assertRaises(support.CourtError) as caught:
            lets_dealing(court, table, thing)
        self.assertIn(caught.exception.word, ("sequence", "order", "awards", "given", "taken"))

    def test_parameters(self):
        for court in (PAIR, MIXED):
            good = {"court": court, "table": best_table(court), "thing": dealing_of(court)}
            self.check_parameters(lets_dealing, good, {"table": wrong_tables(court)})
            for bad in wrong_tables(court):
                self.refuses("table", lets_dealing, court, bad, None)
        for thing in (None, (), DEALT):
            self.raises("Falling", {"here": 0, "there": 1}, lets_dealing, PAIR, ((0, 1), (1, 1)), thing)
            self.raises("Falling", {"here": 0, "there": 1}, lets_dealing, court=PAIR, table=((0, 1), (1, 1)), thing=thing)
        self.raises("Falling", {"here": 0, "there": 2}, lets_dealing, COIN, ((0, 1), (0, 1), (1, 1)), None)

    def test_is_dealing(self):
        for court in COURTS:
            dealing = dealing_of(court)
            self.same(is_dealing(court, dealing), True)
            self.same(is_dealing(court=court, thing=dealing), True)
            for bad in altered(dealing):
                self.same(is_dealing(court, bad), False)
        for thing in ANYTHING:
            self.same(is_dealing(PAIR, thing), False)
            self.same(is_dealing(SEEN, thing), repr(thing) == "()")
        # It is one of the best table, not of another one.
        self.same(is_dealing(PAIR, ((0, 1, (1, 1)),)), False)


class DealingTest(Case):
    def test_dealing_of(self):
        for court in COURTS:
            dealing = dealing_of(court)
            self.assertTrue(support.is_dealing(court, best_table(court), dealing))
            self.same(lets_dealing(court, best_table(court), dealing), len(dealing))
            self.same(deal_out(court, best_table(court)), deal_out(court=court, table=best_table(court)))

    def test_a_dealing_that_needs_a_detour(self):
        # The first giver must not give all to the first taker: only it hides under case 2.
        self.same(dealing_of(LEANING), ((0, 2, (1, 2)), (1, 3, (1, 2))))
        court = (LEANING[0], LEANING[1], LEANING[3], LEANING[2])
        self.same(dealing_of(court), ((0, 3, (1, 2)), (1, 2, (1, 2))))

    def test_detours_of_many_steps(self):
        # Giver k hides under takers k and k + 1, the last one under its own alone; takers count down from 9.
        size = 5
        grades = [tuple(int(k != at and k + 1 != at) for at in range(size)) for k in range(size)]
        gives = [(1, (0, 1), (1, 1), (tuple(1 - g for g in row), ()), 0) for row in grades]
        takes = [(1, (1, 1), (1, 1), (tuple(int(k == at) for at in range(size)), ()), 0) for k in range(size)]
        # With the takers turned round each giver but the last one comes to the taker of the next one first.
        for court in (tuple(gives + takes), tuple(takes + gives), tuple(gives + takes[::-1]), tuple(takes[::-1] + gives)):
            self.assertEqual(set(best_table(court)), {(1, 2)})
            dealing = dealing_of(court)
            self.assertTrue(support.is_dealing(court, best_table(court), dealing))
            self.assertEqual(len(dealing), size)

    def test_disputes_go_from_givers_to_takers_of_one_pool(self):
        for court in COURTS:
            pulls = support.pulls(court, [value(award) for award in best_table(court)])
            for d, c, _ in dealing_of(court):
                self.assertTrue(pulls[d] > 0 > pulls[c])
                self.assertIn(c, pool_at(court, d))

    def test_deal_out(self):
        told = set()
        for court in COURTS:
            for table in rising_tables(court, 104):
                self.assertIsNone(first_fall(court, table))
                if table == best_table(court):
                    self.assertTrue(support.is_dealing(court, table, deal_out(court, table)))
                    continue
                with self.assertRaises(NotBest) as caught:
                    deal_out(court, table)
                self.assertEqual(sorted(vars(caught.exception)), ["direction", "lot"])
                direction, lot = caught.exception.direction, caught.exception.lot
                self.assertIn(direction, ("raise", "lower"))
                self.assertTrue((raises if direction == "raise" else lowers)(court, table, lot), (court, table, lot))
                self.same(lot, tuple(sorted(set(lot))))
                moved = moved_as_told(court, table, direction, lot)
                self.assertTrue(is_rising(court, moved))
                wrongs = [support.wrong(court, [value(award) for award in told_table]) for told_table in (table, moved)]
                self.assertLess(wrongs[1], wrongs[0])
                told.add(direction)
        self.assertEqual(told, {"raise", "lower"})

    def test_pair(self):
        self.raises("NotBest", {"direction": "lower", "lot": (0, 1)}, deal_out, PAIR, ((1, 1), (1, 1)))
        self.raises("NotBest", {"direction": "raise", "lot": (0, 1)}, deal_out, PAIR, ((0, 1), (0, 1)))
        # The pulls add up to nought, but not those of each award.
        self.raises("NotBest", {"direction": "lower", "lot": (0,)}, deal_out, PAIR, ((2, 1), (1, 1)))
        self.raises("NotBest", {"direction": "raise", "lot": (1,)}, deal_out, SEEN, ((0, 1), (0, 1)))
        with self.assertRaises(NotBest):
            deal_out(SEEN, HALVES)
        with self.assertRaises(NotBest):
            deal_out(COPY, HALVES)

    def test_parameters(self):
        for court in (PAIR, MIXED):
            self.check_parameters(deal_out, {"court": court, "table": best_table(court)}, {"table": wrong_tables(court)})
        self.raises("Falling", {"here": 0, "there": 1}, deal_out, PAIR, ((0, 1), (1, 1)))
        self.raises("Falling", {"here": 1, "there": 2}, deal_out, court=COIN, table=((5, 1), (0, 1), (1, 1)))


def is_ring(dealing, ring):
    pairs = {frozenset(triple[:2]) for triple in dealing}
    around = [frozenset(two) for two in zip(ring, ring[1:] + ring[:1])]
    return isinstance(ring, tuple) and len(ring) >= 4 and len(set(ring)) == len(ring) and set(around) <= pairs


def has_ring(size, pairs):
    """More disputes than there can be without a ring."""
    return len(pairs) > size - len(support.components(size, pairs))


class ForestsTest(Case):
    def test_rings_and_forests(self):
        rings = []
        for court in COURTS:
            if len(support.edges(court, best_table(court))) > 9:
                continue
            for dealing in support.dealings_of(court, best_table(court)):
                self.assertTrue(support.is_dealing(court, best_table(court), dealing))
                pairs = [triple[:2] for triple in dealing]
                ring = ring_of(court, dealing)
                self.assertEqual(ring is not None, has_ring(len(court), pairs))
                self.assertTrue(ring is None or is_ring(dealing, ring), (dealing, ring))
                rings.append(ring is not None)
                forest = forest_of(court, dealing)
                self.assertTrue(support.is_dealing(court, best_table(court), forest))
                self.assertIsNone(ring_of(court, forest))
                left = [triple[:2] for triple in forest]
                self.assertFalse(has_ring(len(court), left))
                self.assertLessEqual(set(left), set(pairs))
                if ring is None:
                    self.same(forest, dealing)
                for pool in pools_of(court):
                    self.assertLess(sum(d in pool for d, _ in left), len(pool))
        self.assertGreater(sum(rings), 20)
        self.assertGreater(len(rings) - sum(rings), 20)

    def test_great_ones(self):
        # Four givers and four takers, all with all: sixteen disputes.
        court = FOUR[:2] * 2 + FOUR[2:] * 2
        full = tuple((d, c, (1, 8)) for d in range(4) for c in range(4, 8))
        self.assertTrue(is_ring(full, ring_of(court, full)))
        forest = forest_of(court, full)
        self.assertTrue(support.is_dealing(court, best_table(court), forest))
        self.assertLessEqual(len(forest), 7)
        self.assertIsNone(ring_of(court, forest))
        # One long ring.
        around = tuple(sorted((d, 4 + (d + more) - 4 * (d + more > 3), (1, 4)) for d in range(4) for more in (0, 1)))
        self.assertTrue(support.is_dealing(court, best_table(court), around))
        self.assertEqual(sorted(ring_of(court, around)), list(range(8)))
        self.same(len(forest_of(court, around)), 4)

    def test_none(self):
        for court in (PAIR, COIN, SEEN, MIXED) + FAMILIES[1::3]:
            self.same(ring_of(court, dealing_of(court)), None)
            self.same(forest_of(court, dealing_of(court)), dealing_of(court))

    def test_a_ring_with_tails(self):
        # Givers 0 to 2 of 3 / 2 in all, takers 3 to 5: 0, 1, 3 and 4 are a ring, 2 and 5 hang on.
        court = FOUR[:1] * 3 + FOUR[2:3] * 3
        dealing = (
            (0, 3, (1, 4)), (0, 4, (1, 4)), (1, 3, (1, 4)), (1, 4, (1, 8)), (1, 5, (1, 8)), (2, 4, (1, 8)), (2, 5, (3, 8)),
        )
        self.assertTrue(support.is_dealing(court, best_table(court), dealing))
        self.assertTrue(is_ring(dealing, ring_of(court, dealing)))
        forest = forest_of(court, dealing)
        self.assertTrue(support.is_dealing(court, best_table(court), forest))
        self.assertFalse(has_ring(6, [triple[:2] for triple in forest]))

    def test_refusals(self):
        for court, dealing in ((PAIR, DEALT), (FOUR, ROUND), (SEEN, ())):
            for function in (ring_of, forest_of):
                self.check_parameters(function, {"court": court, "dealing": dealing}, {"dealing": altered(dealing)})


class WhatTheDocumentTellsTest(Case):
    def test_examples(self):
        self.same(dealing_of(COIN), ((0, 2, (1, 1)), (1, 2, (1, 1))))
        self.same(dealing_of(PAIR), DEALT)
        self.same(dealing_of(COPY), ())

    def test_strained_lots(self):
        for court in COURTS[:100]:
            best = [value(award) for award in best_table(court)]
            pairs = [triple[:2] for triple in dealing_of(court)]
            for stake in sorted(set(best))[:3] + [(max(best) + min(best)) / 2]:
                told = [
                    lot for lot in support.uppers(court)
                    if all(k in lot for k in range(len(court)) if best[k] > stake) and all(best[k] >= stake for k in lot)
                    and not any(d in lot and c not in lot for d, c in pairs)
                ]
                self.same(strained_lots(court, quotient(stake)), tuple(sorted(told)))

    def test_meetings(self):
        for court in COURTS[:60]:
            for here, there in support.order(court):
                dealing = ((here, there, (1, 2)),)
                self.same(is_dealing(meeting(court, here, there), dealing), True)
                self.same(dealing_of(meeting(court, here, there)), dealing)

    def test_leaning(self):
        self.same(order_of(LEANING), ((0, 1), (0, 2), (0, 3), (1, 3), (2, 3)))
        self.same(best_table(LEANING), ((1, 2),) * 5)
