"""[56] outcomes, [57] beliefs, [58] gains."""

import random
from fractions import Fraction

from oneistrue.beliefs import belief_of
from oneistrue.dealing import dealing_of
from oneistrue.gains import best_mean, first_gain, gain_of
from oneistrue.hearings import hearing_of
from oneistrue.levels import level_by
from oneistrue.outcomes import mean_award, pair_weights, spread_of, table_from
from tests import support
from tests.support import (
    CHAIN, COIN, EXAMPLES, FOUR, HIGH, MIXED, PAIR, SEEN, WRONG_SIDES, Case, all_alike, certain, chain, crowded_courts,
    made_courts, made_hearing, made_right, quotient, unlike, value, wrong_cases,
)

FAMILIES = (all_alike(15, 6), unlike(15, 6), chain(15, 6))
COURTS = EXAMPLES + (FOUR, HIGH) + FAMILIES + tuple(made_courts(25, 1, 6, seed=171)) + tuple(crowded_courts(15, 2, 5, seed=172))
DEALT = ((0, 1, (1, 2)),)
SAID = hearing_of(PAIR, DEALT)


def hearings(seed, courts=COURTS):
    """Pairs of a court and a hearing: that of a dealing, and two by the dice."""
    dice = random.Random(seed)
    found = []
    for court in courts:
        found += [(court, hearing_of(court, dealing_of(court))), (court, made_hearing(dice, court)), (court, made_hearing(dice, court))]
    return found


def wrong_hearings(court):
    hearing = hearing_of(court, dealing_of(court))
    pleas, replies, awards = hearing
    return (
        None, True, (), [], list(hearing), hearing[:2], (pleas, replies, list(awards)), (pleas[1:], replies, awards),
        support.with_award(hearing, 0, 0, None), support.with_award(hearing, 0, 0, (True, 1)),
        support.with_row(hearing, 0, 0, ((0, 1),) * len(court)), support.with_row(hearing, 1, 0, list(replies[0])),
    )


class OutcomesTest(Case):
    def test_pair_weights(self):
        for court, hearing in hearings(173):
            size = range(len(court))
            for plea in size:
                for reply in size:
                    if support.tellers(court, plea, reply):
                        expected = support.pair_weights(court, hearing, plea, reply)
                        self.same(pair_weights(court, hearing, plea, reply), tuple(map(quotient, expected)))
                    else:
                        self.refuses("reply", pair_weights, court, hearing, plea, reply)
                        self.refuses("reply", belief_of, court, hearing, plea, reply)

    def test_means_and_table(self):
        for court, hearing in hearings(174):
            means = [support.mean(court, hearing, here) for here in range(len(court))]
            self.same(table_from(court, hearing), tuple(map(quotient, means)))
            for here, mean in enumerate(means):
                self.same(mean_award(court, hearing, here), quotient(mean))

    def test_spread(self):
        many = 0
        for court, hearing in hearings(175):
            size = range(len(court))
            for here in size:
                chances = {}
                for plea in size:
                    for reply in size:
                        chance = value(hearing[0][here][plea]) * value(hearing[1][here][reply])
                        if chance:
                            award = hearing[2][plea][reply]
                            chances[award] = chances.get(award, 0) + chance
                result = spread_of(court, hearing, here)
                self.same(result, tuple((award, quotient(chances[award])) for award in sorted(chances)))
                self.assertEqual(sum(value(chance) for _, chance in result), 1)
                mean = sum(value(award) * value(chance) for award, chance in result)
                self.same(quotient(mean), mean_award(court, hearing, here))
                many += len(result) > 1
        self.assertGreater(many, 20)

    def test_spread_ascends_as_pairs(self):
        court = FOUR[:1] * 3
        rows = tuple(((1, 3),) * 3 for _ in court)
        awards = (((1, 2), (2, 5), (3, 1)),) * 3
        result = spread_of(court, (rows, rows, awards), 1)
        self.same(result, (((1, 2), (1, 3)), ((2, 5), (1, 3)), ((3, 1), (1, 3))))

    def test_refusals(self):
        for court in (PAIR, CHAIN):
            hearing = hearing_of(court, dealing_of(court))
            wrong = {"hearing": wrong_hearings(court), "here": wrong_cases(court), "plea": wrong_cases(court)}
            wrong["reply"] = wrong["plea"]
            pair = {"court": court, "hearing": hearing, "plea": 1, "reply": 0}
            self.check_parameters(pair_weights, pair, wrong)
            self.check_parameters(belief_of, pair, wrong)
            good = {"court": court, "hearing": hearing, "here": 1}
            self.check_parameters(mean_award, good, wrong)
            self.check_parameters(spread_of, good, wrong)
            self.check_parameters(table_from, {"court": court, "hearing": hearing}, wrong)
        # The pair is refused behind all other parameters.
        true = hearing_of(SEEN, ())
        self.refuses("hearing", pair_weights, SEEN, None, 0, 1)
        self.refuses("plea", pair_weights, SEEN, true, 2, 1)
        self.refuses("reply", pair_weights, SEEN, true, 0, 1)
        self.refuses("reply", belief_of, SEEN, true, 1, 0)


class BeliefsTest(Case):
    def check_belief(self, court, hearing, plea, reply):
        """What the document tells of the belief of a pair that can be told; returns it."""
        result = belief_of(court, hearing, plea, reply)
        weights = support.pair_weights(court, hearing, plea, reply)
        if any(weights):
            self.same(result, tuple(quotient(weight / sum(weights)) for weight in weights))
            return result
        lot = support.tellers(court, plea, reply)
        rights = [value(court[t][1]) for t in lot]
        award = hearing[2][plea][reply]
        self.assertEqual(result is None, not min(rights) <= value(award) <= max(rights))
        if result is not None:
            self.assertIsInstance(result, tuple)
            shares = [value(share) for share in result]
            self.same(result, tuple(map(quotient, shares)))
            self.assertEqual((len(shares), sum(shares)), (len(court), 1))
            self.assertTrue(all(share >= 0 and (share == 0 or t in lot) for t, share in enumerate(shares)))
            self.same(level_by(court, result), award)
        return result

    def test_beliefs(self):
        told = {"none": 0, "one": 0, "two": 0}
        dice = random.Random(176)
        for court, hearing in hearings(177):
            for plea, reply in support.tellable(court):
                for changed in (hearing, support.with_award(hearing, plea, reply, made_right(dice))):
                    result = self.check_belief(court, changed, plea, reply)
                    many = 0 if result is None else sum(share[0] > 0 for share in result)
                    told["none" if many == 0 else "one" if many == 1 else "two"] += 1
        self.assertGreater(min(told.values()), 30)

    def test_a_told_pair_whatever_its_award(self):
        for award in ((1, 2), (100, 1), (-5, 3)):
            self.same(belief_of(PAIR, support.with_award(SAID, 1, 0, award), 1, 0), ((1, 2), (1, 2)))

    def test_none(self):
        for award in ((1, 10 ** 9), (-1, 10 ** 9), (5, 1)):
            self.same(belief_of(PAIR, support.with_award(SAID, 0, 1, award), 0, 1), None)
        self.same(belief_of(PAIR, SAID, 0, 1), ((1, 1), (0, 1)))

    def test_factors_count(self):
        # Case 0 has up 3, case 1 down 1; both can tell the pair (1, 1), which is not told.
        court = ((1, (0, 1), (3, 1), ((), ()), 0), (7, (4, 1), (1, 1), ((), ()), 0))
        rows = (certain(2, 0), certain(2, 0))
        hearing = (rows, rows, (((1, 1), (1, 1)), ((1, 1), (1, 1))))
        self.same(belief_of(court, hearing, 1, 1), ((1, 2), (1, 2)))
        self.same(belief_of(court, support.with_award(hearing, 1, 1, (4, 1)), 1, 1), ((0, 1), (1, 1)))
        self.same(belief_of(court, support.with_award(hearing, 1, 1, (2, 1)), 1, 1), ((1, 4), (3, 4)))


class GainsTest(Case):
    def test_best_mean_and_gain(self):
        gains = 0
        for court, hearing in hearings(178):
            expected = None
            for side in (0, 1):
                for here in range(len(court)):
                    own = support.mean(court, hearing, here)
                    told = support.stories(court, side, here)
                    means = [support.mean_telling(court, hearing, side, here, story) for story in told]
                    best = max(means) if side == 0 else min(means)
                    gain = best - own if side == 0 else own - best
                    self.same(best_mean(court, hearing, side, here), quotient(best))
                    self.same(gain_of(court, hearing, side, here), quotient(gain))
                    self.assertGreaterEqual(gain, 0)
                    better = [s for s, mean in zip(told, means) if (mean > own if side == 0 else mean < own)]
                    if better and expected is None:
                        expected = (side, here, better[0])
                    gains += gain > 0
            self.same(first_gain(court, hearing), expected)
        self.assertGreater(gains, 50)

    def test_no_gain_in_the_hearing_of_a_dealing(self):
        for court in COURTS:
            self.same(first_gain(court, hearing_of(court, dealing_of(court))), None)

    def test_by_hand(self):
        hearing = support.with_award(SAID, 1, 0, (-1, 1))
        # The claimant gets 0 in case 0 by telling it, not -1.
        self.same(best_mean(PAIR, hearing, 0, 0), (0, 1))
        self.same(gain_of(PAIR, hearing, 0, 0), (1, 1))
        self.same(gain_of(PAIR, hearing, 1, 0), (0, 1))
        self.same(first_gain(PAIR, hearing), (0, 0, 0))
        # The claimant tells 1 in both cases; against it the defendant pays less by telling 1, too.
        hearing = support.with_award(SAID, 1, 1, (0, 1))
        self.same(first_gain(PAIR, hearing), (1, 0, 1))
        self.same(gain_of(PAIR, hearing, 1, 1), (1, 2))

    def test_mixed_rows(self):
        # The defendant throws a coin in case 2; the claimant can tell 2 alone.
        hearing = hearing_of(COIN, dealing_of(COIN))
        hearing = support.with_award(support.with_award(hearing, 2, 0, (3, 1)), 2, 1, (-1, 1))
        self.same(best_mean(COIN, hearing, 0, 2), (1, 1))
        self.same(best_mean(COIN, hearing, 1, 2), (-1, 1))
        self.same(gain_of(COIN, hearing, 1, 2), (2, 1))
        self.same(quotient(support.mean(COIN, hearing, 2)), (1, 1))
        self.same(value((2, 1)), Fraction(2))

    def test_refusals(self):
        for court in (PAIR, MIXED):
            hearing = hearing_of(court, dealing_of(court))
            wrong = {"hearing": wrong_hearings(court), "side": WRONG_SIDES, "here": wrong_cases(court)}
            good = {"court": court, "hearing": hearing, "side": 1, "here": 0}
            self.check_parameters(best_mean, good, wrong)
            self.check_parameters(gain_of, good, wrong)
            self.check_parameters(first_gain, {"court": court, "hearing": hearing}, wrong)
