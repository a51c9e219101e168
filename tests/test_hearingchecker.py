"""[59] hearingchecker and back; (G1), (G3), (G4)."""

import random
from fractions import Fraction

from oneistrue.back import dealing_back
from oneistrue.best import best_table
from oneistrue.dealing import dealing_of
from oneistrue.errors import InvalidPaper
from oneistrue.hearingchecker import lets_hearing
from oneistrue.hearings import hearing_of
from tests import support
from tests.support import (
    ANYTHING, COIN, COPY, EXAMPLES, FOUR, HIGH, PAIR, ROUND, SEEN, Case, all_alike, certain, chain, crowded_courts,
    made_courts, made_hearing, made_right, quotient, unlike, value,
)
from tests.test_hearings import deals
from tests.test_outcomes import DEALT, SAID, wrong_hearings

FAMILIES = (all_alike(17, 6), unlike(17, 6), chain(17, 6))
COURTS = EXAMPLES + (FOUR, HIGH) + FAMILIES + tuple(made_courts(40, 1, 6, seed=191)) + tuple(crowded_courts(25, 2, 5, seed=192))
# Two cases alike, so that each may be told in the other one, with the right award for both.
TWINS = SEEN[:1] * 2
TRUE = (certain(2, 0), certain(2, 1))
CROSSED = (certain(2, 1), certain(2, 0))
NOUGHTS = (((0, 1), (0, 1)), ((0, 1), (0, 1)))
# Cases 0 and 2 with one holding give to case 1.
THREE = (PAIR[0], (1, (4, 1), (1, 1), ((0,), ()), 0), (1, (-1, 1), (1, 1), ((1,), ()), 0))


def some_award(dice, court, hearing, plea, reply):
    """An award for the pair, by the dice: one within its bounds, any other one, or one of the hearing."""
    rights = [value(court[t][1]) for t in support.tellers(court, plea, reply)]
    low, high = min(rights), max(rights)
    told = [award for row in hearing[2] for award in row if award is not None]
    return dice.choice((quotient(low), quotient(high), quotient((low + high) / 2), made_right(dice), dice.choice(told)))


def changed(dice, court, hearing):
    """The hearing with one award or one row changed, by the dice."""
    if dice.random() < 0.6:
        plea, reply = dice.choice(support.tellable(court))
        return support.with_award(hearing, plea, reply, some_award(dice, court, hearing, plea, reply))
    side, here = dice.randrange(2), dice.randrange(len(court))
    return support.with_row(hearing, side, here, support.made_row(dice, court, side, here))


def idle_court(dice):
    """A court with cases that are alike in all, as others are in holdings, so that idle lies can be told."""
    court = support.made_court(dice, dice.randint(1, 3), sights=1)
    while len(court) < 6 and dice.random() < 0.8:
        court += (dice.choice(court),)
    return tuple(dice.sample(court, len(court)))


def with_idle_lies(dice, court, hearing):
    """The hearing with lies in cases of which the pull is nought: there another case with the same right award is told."""
    best = best_table(court)
    for here in range(len(court)):
        if best[here] != court[here][1] or dice.random() < 0.3:
            continue
        told = ([here], [here])
        for side in dice.choice(((0,), (1,), (0, 1))):
            stories = [s for s in support.stories(court, side, here) if court[s][1] == court[here][1] and s != here]
            if stories:
                story, share = dice.choice(stories), Fraction(dice.randint(1, 3), 3)
                row = [(0, 1)] * len(court)
                row[here], row[story] = quotient(1 - share), quotient(share)
                hearing = support.with_row(hearing, side, here, tuple(row))
                told[side].append(story)
        for plea in told[0]:
            for reply in told[1]:
                hearing = support.with_award(hearing, plea, reply, best[here])
    return hearing


class CheckerTest(Case):
    def judged(self, court, hearing):
        """lets_hearing does what the document tells; returns the fault, None if there is none."""
        fault = support.hearing_fault(court, hearing)
        if fault is None:
            table = tuple(quotient(support.mean(court, hearing, here)) for here in range(len(court)))
            self.same(lets_hearing(court, hearing), table)
        else:
            self.check_paper(fault[0], fault[1], lets_hearing, court, hearing)
        return fault

    def test_hearings_by_the_dice(self):
        dice = random.Random(193)
        words = {}
        for court in COURTS:
            hearing = hearing_of(court, dealing_of(court))
            for start in (hearing, hearing, hearing, made_hearing(dice, court)):
                told = start
                for _ in range(3):
                    told = changed(dice, court, told)
                    fault = self.judged(court, told)
                    word = fault and fault[0]
                    words[word] = words.get(word, 0) + 1
        for word in (None, "gain", "belief"):
            self.assertGreater(words[word], 20)

    def test_one_liar_hearings_of_all_sorts(self):
        dice = random.Random(194)
        words = {}
        for _ in range(150):
            court = idle_court(dice)
            dealing = dealing_of(court)
            hearing = with_idle_lies(dice, court, hearing_of(court, dealing))
            for _ in range(2):
                plea, reply = dice.choice(support.tellable(court))
                if not any(support.pair_weights(court, hearing, plea, reply)):
                    award = some_award(dice, court, hearing, plea, reply)
                    hearing = support.with_award(hearing, plea, reply, award)
                fault = self.judged(court, hearing)
                words[fault and fault[0]] = words.get(fault and fault[0], 0) + 1
                if fault is None:
                    self.same(lets_hearing(court, hearing), best_table(court))
                    self.same(dealing_back(court, hearing), dealing)
        self.assertGreater(words[None], 60)
        self.assertLessEqual({"gain", "belief", "agreed", "liars"}, set(words))

    def test_the_table_is_the_best_one(self):
        for court, best, dealing in deals(COURTS):
            self.same(lets_hearing(court, hearing_of(court, dealing)), best)

    def test_shape(self):
        for court in (PAIR, SEEN):
            for bad in wrong_hearings(court) + ANYTHING:
                self.check_paper("shape", -1, lets_hearing, court, bad)

    def test_gain(self):
        # At the claimant in 0, and at the defendant in 0, both ahead of those in 1.
        self.check_paper("gain", (0, 0), lets_hearing, PAIR, support.with_award(SAID, 0, 0, (1, 1)))
        self.check_paper("gain", (0, 1), lets_hearing, PAIR, support.with_award(SAID, 1, 1, (0, 1)))
        court = SEEN[:1] + tuple(case[:4] + (3,) for case in PAIR)
        hearing = hearing_of(court, dealing_of(court))
        self.check_paper("gain", (1, 0), lets_hearing, court, support.with_award(hearing, 1, 1, (3, 1)))
        self.check_paper("gain", (1, 1), lets_hearing, court, support.with_award(hearing, 2, 2, (0, 1)))
        # The claimant in case 1 of a court turned round gains, no one in case 0.
        back = PAIR[::-1]
        hearing = hearing_of(back, dealing_of(back))
        self.check_paper("gain", (0, 1), lets_hearing, back, support.with_award(hearing, 0, 0, (0, 1)))
        self.check_paper("gain", (1, 0), lets_hearing, back, support.with_award(hearing, 1, 1, (1, 1)))
        # Ahead of a belief.
        self.check_paper("gain", (0, 0), lets_hearing, PAIR, support.with_award(SAID, 1, 0, (-1, 1)))

    def test_belief(self):
        # One case: no one can gain, but the award is not the level.
        alone = PAIR[:1]
        hearing = (TRUE[:1][0][:1],) * 1, (TRUE[:1][0][:1],) * 1, (((5, 1),),)
        self.check_paper("belief", (0, 0), lets_hearing, alone, hearing)
        self.same(lets_hearing(alone, hearing[:2] + ((((0, 1),),),)), ((0, 1),))
        self.check_paper("belief", (1, 0), lets_hearing, PAIR, support.with_award(SAID, 1, 0, (2, 3)))
        # Pairs that are not told, out of their bounds, but without a gain.
        self.check_paper("belief", (0, 0), lets_hearing, PAIR, support.with_award(SAID, 0, 0, (-1, 1)))
        self.check_paper("belief", (0, 1), lets_hearing, PAIR, support.with_award(SAID, 0, 1, (1, 9)))
        self.check_paper("belief", (0, 1), lets_hearing, PAIR, support.with_award(SAID, 0, 1, (-1, 9)))
        self.check_paper("belief", (1, 1), lets_hearing, PAIR, support.with_award(SAID, 1, 1, (10, 9)))
        # The first one, plea by plea.
        both = support.with_award(support.with_award(SAID, 1, 1, (2, 1)), 0, 1, (3, 1))
        self.check_paper("belief", (0, 1), lets_hearing, PAIR, both)
        for award in ((1, 2), (3, 4), (1, 1)):
            self.same(lets_hearing(PAIR, support.with_award(SAID, 1, 1, award)), ((1, 2), (1, 2)))
        # A told pair needs its level, not only an award within bounds.
        self.same(support.hearing_fault(PAIR, support.with_award(SAID, 1, 0, (1, 3)))[0], "belief")

    def test_agreed(self):
        hearing = hearing_of(THREE, dealing_of(THREE))
        self.same(lets_hearing(THREE, hearing), ((1, 1),) * 3)
        # The claimant lies in 0, and of the pair (0, 0) the right award of 0 is the least award.
        self.check_paper("agreed", 0, lets_hearing, THREE, support.with_award(hearing, 0, 0, (-1, 2)))
        self.same(lets_hearing(THREE, support.with_award(hearing, 2, 2, (-1, 1))), ((1, 1),) * 3)
        self.same(lets_hearing(THREE, support.with_award(hearing, 2, 2, (0, 1))), ((1, 1),) * 3)
        # Likewise the defendant, with a greatest one.
        both = support.turned_round(THREE, hearing)
        self.same(lets_hearing(*both), ((-1, 1),) * 3)
        self.check_paper("agreed", 0, lets_hearing, both[0], support.with_award(both[1], 0, 0, (1, 2)))
        # The first one, behind a gain or a belief of any other pair.
        court = THREE + ((1, (-2, 1), (1, 1), ((1,), ()), 0),)
        hearing = hearing_of(court, dealing_of(court))
        wrong = support.with_award(support.with_award(hearing, 2, 2, (-3, 2)), 0, 0, (-1, 2))
        self.check_paper("agreed", 0, lets_hearing, court, wrong)
        wrong = support.with_award(hearing, 2, 2, (-3, 2))
        self.check_paper("agreed", 2, lets_hearing, court, wrong)
        self.check_paper("belief", (0, 3), lets_hearing, court, support.with_award(wrong, 0, 3, (-5, 1)))

    def test_liars(self):
        self.same(lets_hearing(TWINS, (TRUE, TRUE, NOUGHTS)), ((0, 1), (0, 1)))
        self.same(lets_hearing(TWINS, (CROSSED, TRUE, NOUGHTS)), ((0, 1), (0, 1)))
        self.same(lets_hearing(TWINS, (TRUE, CROSSED, NOUGHTS)), ((0, 1), (0, 1)))
        self.check_paper("liars", 0, lets_hearing, TWINS, (CROSSED, CROSSED, NOUGHTS))
        one = (TRUE[0], CROSSED[1])
        self.check_paper("liars", 1, lets_hearing, TWINS, (one, CROSSED, NOUGHTS))
        self.same(lets_hearing(TWINS, (one, (CROSSED[0], TRUE[1]), NOUGHTS)), ((0, 1), (0, 1)))
        # A chance is enough.
        half = ((1, 2), (1, 2))
        self.check_paper("liars", 0, lets_hearing, TWINS, ((half, TRUE[1]), (((9, 10), (1, 10)), TRUE[1]), NOUGHTS))

    def test_first_liars_behind_agreed(self):
        court = THREE + TWINS[:1] + TWINS[:1]
        court = tuple(case[:3] + ((case[3] if at < 3 else ((0,), ())), 0 if at < 3 else 1) for at, case in enumerate(court))
        hearing = hearing_of(court, dealing_of(court))
        cross = support.with_row(support.with_row(hearing, 0, 3, certain(5, 4)), 1, 3, certain(5, 4))
        self.check_paper("liars", 3, lets_hearing, court, cross)
        self.check_paper("agreed", 0, lets_hearing, court, support.with_award(cross, 0, 0, (-1, 2)))


class BackTest(Case):
    def test_there_and_back(self):
        for court, _, dealing in deals(COURTS):
            self.same(dealing_back(court, hearing_of(court, dealing)), dealing)
        self.same(dealing_back(FOUR, hearing_of(FOUR, ROUND)), ROUND)

    def test_with_other_awards_of_pairs_that_are_not_told(self):
        dice = random.Random(195)
        passed = 0
        for court, best, dealing in deals(COURTS):
            hearing = hearing_of(court, dealing)
            for plea, reply in support.tellable(court):
                if not any(support.pair_weights(court, hearing, plea, reply)) and dice.random() < 0.15:
                    told = support.with_award(hearing, plea, reply, some_award(dice, court, hearing, plea, reply))
                    if support.hearing_fault(court, told) is None:
                        self.same(dealing_back(court, told), dealing)
                        passed += told != hearing
                    else:
                        self.refuses("hearing", dealing_back, court, told)
        self.assertGreater(passed, 20)

    def test_with_idle_lies(self):
        self.same(dealing_back(TWINS, (CROSSED, TRUE, NOUGHTS)), ())
        self.same(dealing_back(COPY, hearing_of(COPY, ())), ())
        court = PAIR + TWINS[:1]
        court = tuple(case[:3] + ((case[3][0] or (1,), ()), 0) for case in court)
        # In case 2, of right award 1 / 2 = its best award, the claimant tells 1, as it does in case 0.
        court = court[:2] + ((1, (1, 2), (1, 1), ((1,), ()), 0),)
        dealing = dealing_of(court)
        self.same(dealing, DEALT)
        hearing = support.with_row(hearing_of(court, dealing), 0, 2, certain(3, 1))
        hearing = support.with_award(hearing, 1, 2, (1, 2))
        self.assertIsNone(support.hearing_fault(court, hearing))
        self.same(dealing_back(court, hearing), DEALT)

    def test_refusals(self):
        for court in (PAIR, COIN):
            hearing = hearing_of(court, dealing_of(court))
            wrong = wrong_hearings(court) + ANYTHING + (support.with_award(hearing, 0, 0, (9, 1)),)
            self.check_parameters(dealing_back, {"court": court, "hearing": hearing}, {"hearing": wrong})
        self.refuses("hearing", dealing_back, TWINS, (CROSSED, CROSSED, NOUGHTS))
        hearing = hearing_of(THREE, dealing_of(THREE))
        self.refuses("hearing", dealing_back, THREE, support.with_award(hearing, 0, 0, (-1, 2)))
        self.refuses("hearing", dealing_back, PAIR, support.with_award(SAID, 0, 1, (1, 9)))
        with self.assertRaises(InvalidPaper):
            lets_hearing(PAIR, support.with_award(SAID, 0, 1, (1, 9)))
