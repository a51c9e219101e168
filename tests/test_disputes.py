"""[46] disputes, [47] mixes, and the consequences [52] that speak of them."""

from fractions import Fraction

from oneistrue.best import best_table
from oneistrue.dealing import dealing_of
from oneistrue.disputes import greatest_deal, is_only, least_deal, open_disputes, sure_disputes
from oneistrue.forests import forest_of, ring_of
from oneistrue.mixes import dealing_with, mixed
from tests import support
from tests.support import (
    COIN, EXAMPLES, FOUR, HIGH, MIXED, PAIR, ROUND, SEEN, WRONG_QUOTIENTS, Case, all_alike, altered, chain, crowded_courts,
    made_courts, quotient, unlike, value, wrong_cases,
)

FAMILIES = (all_alike(5), all_alike(6, 5), unlike(5), chain(5), chain(6), chain(7, 6))
MADE = tuple(made_courts(25, 1, 5, seed=111)) + tuple(crowded_courts(45, 2, 6, seed=112))
COURTS = tuple(
    court for court in EXAMPLES + (FOUR, HIGH) + FAMILIES + MADE if len(support.edges(court, best_table(court))) < 10
)
# Case 2 gives to 3 and 4, cases 0 and 1 to 4 and 5: a pair that takes too much leaves the others too little.
KNOT = (
    (1, (0, 1), (1, 1), ((0, 1, 1), ()), 0), (1, (0, 1), (1, 1), ((0, 1, 1), ()), 0), (1, (0, 1), (1, 1), ((1, 1, 0), ()), 0),
    (1, (1, 1), (1, 1), ((1, 0, 0), ()), 0), (1, (1, 1), (1, 1), ((0, 1, 0), ()), 0), (1, (1, 1), (1, 1), ((0, 0, 1), ()), 0),
)
LONG = ((1, 3), (-2, 1), (1, 10 ** 15))


def spans(court):
    """For each pair of cases its least and its greatest amount, over all dealings that are no mixture of others."""
    found = support.corners(court, best_table(court))
    size = range(len(court))
    return {
        (d, c): (min(one.get((d, c), Fraction(0)) for one in found), max(one.get((d, c), Fraction(0)) for one in found))
        for d in size for c in size
    }


class DisputesTest(Case):
    def test_by_all_corners(self):
        several = 0
        for court in COURTS + (KNOT,):
            told = spans(court)
            for (here, there), (least, most) in told.items():
                self.same(least_deal(court, here, there), quotient(least))
                self.same(greatest_deal(court, here, there), quotient(most))
            self.same(open_disputes(court), tuple(sorted(pair for pair in told if told[pair][1] > 0)))
            self.same(sure_disputes(court), tuple(sorted(pair for pair in told if told[pair][0] > 0)))
            only = all(least == most for least, most in told.values())
            self.same(is_only(court), only)
            self.same(is_only(court), len(support.corners(court, best_table(court))) == 1)
            several += not only
        self.assertGreater(several, 10)

    def test_knot(self):
        # 2 alone hides under 3, so it gives all of its 1 / 2 to it; 0 and 1 share the rest, as they like.
        told = {(0, 4): ((0, 1), (1, 2)), (0, 5): ((0, 1), (1, 2)), (2, 3): ((1, 2), (1, 2)), (2, 4): ((0, 1), (0, 1))}
        for (here, there), (least, most) in told.items():
            self.same(least_deal(KNOT, here, there), least)
            self.same(greatest_deal(KNOT, here, there), most)
        self.same(open_disputes(KNOT), ((0, 4), (0, 5), (1, 4), (1, 5), (2, 3)))
        self.same(sure_disputes(KNOT), ((2, 3),))

    def test_a_least_amount_between(self):
        # Givers of 3 and 1, takers of 2 and 2: the great giver gives each taker at least 1.
        court = ((3,) + FOUR[0][1:], FOUR[0], (2,) + FOUR[2][1:], (2,) + FOUR[2][1:])
        self.same(best_table(court), ((1, 2),) * 4)
        self.same((least_deal(court, 0, 2), greatest_deal(court, 0, 2)), ((1, 2), (1, 1)))
        self.same((least_deal(court, 1, 3), greatest_deal(court, 1, 3)), ((0, 1), (1, 2)))
        self.same(sure_disputes(court), ((0, 2), (0, 3)))
        self.same(is_only(court), False)

    def test_pairs_of_no_dealing(self):
        for court in COURTS:
            pairs = support.edges(court, best_table(court))
            for here in range(len(court)):
                for there in range(len(court)):
                    if (here, there) not in pairs:
                        self.same(least_deal(court, here, there), (0, 1))
                        self.same(greatest_deal(court, here, there), (0, 1))
                        with_none = dealing_with(court, here, there, (0, 1))
                        self.assertTrue(support.is_dealing(court, best_table(court), with_none))
                        self.refuses("amount", dealing_with, court, here, there, (1, 2))

    def test_one_dealing(self):
        for court in (PAIR, COIN, SEEN, HIGH, unlike(5)):
            self.same(is_only(court), True)
            self.same(open_disputes(court), sure_disputes(court))
            self.same(open_disputes(court), tuple(triple[:2] for triple in dealing_of(court)))
        self.same(is_only(FOUR), False)
        self.same(open_disputes(FOUR), ((0, 2), (0, 3), (1, 2), (1, 3)))
        self.same(sure_disputes(FOUR), ())

    def test_without_a_ring_the_disputes_tell_the_amounts(self):
        for court in COURTS[:60]:
            found = [support.as_dealing(one) for one in support.corners(court, best_table(court))]
            disputes = [tuple(triple[:2] for triple in dealing) for dealing in found]
            self.assertEqual(len(set(disputes)), len(found))
            for dealing in found:
                self.same(ring_of(court, dealing), None)

    def test_eight(self):
        court = FOUR[:2] * 2 + FOUR[2:] * 2
        for here in range(8):
            for there in range(8):
                is_open = here < 4 <= there
                self.same(least_deal(court, here, there), (0, 1))
                self.same(greatest_deal(court, here, there), (1, 2) if is_open else (0, 1))
        self.same(len(open_disputes(court)), 16)
        self.same(is_only(court), False)

    def test_refusals(self):
        cases = wrong_cases(MIXED)
        for function in (least_deal, greatest_deal):
            self.check_parameters(function, {"court": MIXED, "here": 1, "there": 0}, {"here": cases, "there": cases})


def amounts_in(dealing):
    return {(d, c): value(amount) for d, c, amount in dealing}


class MixesTest(Case):
    def test_mixed(self):
        for court in COURTS + (KNOT,):
            found = [support.as_dealing(one) for one in support.corners(court, best_table(court))][:4]
            for dealing in found:
                for more in found:
                    for part in ((0, 1), (1, 1), (1, 2), (2, 7)):
                        one, other, share = amounts_in(dealing), amounts_in(more), value(part)
                        amounts = {
                            pair: share * one.get(pair, 0) + (1 - share) * other.get(pair, 0) for pair in list(one) + list(other)
                        }
                        result = mixed(court, dealing, more, part)
                        self.same(result, support.as_dealing(amounts))
                        self.assertTrue(support.is_dealing(court, best_table(court), result))
                    self.same(mixed(court, dealing, more, (0, 1)), more)
                    self.same(mixed(court, dealing, more, (1, 1)), dealing)
        across = ((0, 3, (1, 2)), (1, 2, (1, 2)))
        straight = ((0, 2, (1, 2)), (1, 3, (1, 2)))
        self.same(mixed(FOUR, straight, across, (1, 2)), ROUND)
        self.same(mixed(FOUR, straight, across, (1, 4))[0], (0, 2, (1, 8)))

    def test_mixed_refusals(self):
        parts = WRONG_QUOTIENTS + ((-1, 2), (3, 2), (2, 1), (-1, 10 ** 15))
        for court, dealing in ((PAIR, dealing_of(PAIR)), (FOUR, ROUND)):
            good = {"court": court, "dealing": dealing, "more": dealing_of(court), "part": (1, 2)}
            wrong = {"dealing": altered(dealing), "more": altered(dealing_of(court)), "part": parts}
            self.check_parameters(mixed, good, wrong)

    def test_dealing_with(self):
        for court in COURTS + (KNOT,):
            best = best_table(court)
            for (here, there), (least, most) in spans(court).items():
                if (here, there) not in support.edges(court, best):
                    continue
                for share in (Fraction(0), Fraction(1), Fraction(1, 2), Fraction(3, 11)):
                    amount = quotient(least + share * (most - least))
                    dealing = dealing_with(court, here, there, amount)
                    self.assertTrue(support.is_dealing(court, best, dealing))
                    self.same(amounts_in(dealing).get((here, there), Fraction(0)), value(amount))
                    self.assertTrue(support.is_dealing(court, best, forest_of(court, dealing)))
                beyond = (most + Fraction(1, 10 ** 9), least - Fraction(1, 10 ** 9), most + 1, Fraction(-1))
                for amount in beyond:
                    self.refuses("amount", dealing_with, court, here, there, quotient(amount))

    def test_dealing_with_amounts_on_their_own_bottoms(self):
        for amount in ((1, 3), (1, 7), (2, 5), (1, 10 ** 15), (10 ** 14 + 1, 10 ** 15)):
            dealing = dealing_with(FOUR, 1, 3, amount)
            self.same(dealing[-1], (1, 3, amount))
            self.assertTrue(support.is_dealing(FOUR, best_table(FOUR), dealing))

    def test_dealing_with_refusals(self):
        cases = wrong_cases(FOUR)
        good = {"court": FOUR, "here": 0, "there": 2, "amount": (1, 8)}
        amounts = WRONG_QUOTIENTS + ((-1, 2), (5, 8), (1, 1), (500000001, 10 ** 9))
        self.check_parameters(dealing_with, good, {"here": cases, "there": cases, "amount": amounts})
        self.same(dealing_with(FOUR, 2, 2, (0, 1)), dealing_with(FOUR, 2, 0, (0, 1)))
        for there in (0, 1, 2):
            self.refuses("amount", dealing_with, FOUR, 2, there, (1, 4))
