"""[60] lies, [61] saddles and showings, and the consequences [62] that speak of them; (G4)."""

import random
from itertools import product

from oneistrue.best import best_table, off_share
from oneistrue.dealing import dealing_of
from oneistrue.hearings import hearing_of, told_award
from oneistrue.lies import idle_lies, lie_share, lies_of
from oneistrue.saddles import first_open, first_worth, is_saddle
from oneistrue.showings import shown_award, shown_mean
from tests import support
from tests.support import (
    COIN, COPY, EXAMPLES, FOUR, HIGH, MIXED, PAIR, SEEN, WRONG_NUMBERS, WRONG_SIDES, Case, all_alike, altered, chain,
    crowded_courts, is_within, made_courts, quotient, unlike, value, wrong_cases,
)
from tests.test_bounds import wrong_showings
from tests.test_hearingchecker import CROSSED, NOUGHTS, TRUE, TWINS, idle_court, with_idle_lies
from tests.test_hearings import deals
from tests.test_outcomes import DEALT, SAID, hearings, wrong_hearings

FAMILIES = (all_alike(19, 6), unlike(19, 6), chain(19, 6))
COURTS = EXAMPLES + (FOUR, HIGH) + FAMILIES + tuple(made_courts(24, 1, 6, seed=201)) + tuple(crowded_courts(14, 2, 5, seed=202))


def idle_hearings(seed):
    """Pairs of a court and a hearing with idle lies, one-liar hearings and others."""
    dice = random.Random(seed)
    courts = [idle_court(dice) for _ in range(60)]
    return [(court, with_idle_lies(dice, court, hearing_of(court, dealing_of(court)))) for court in courts]


class LiesTest(Case):
    def test_by_definition(self):
        told = {"idle": 0, "other": 0}
        for court, hearing in hearings(203, COURTS) + idle_hearings(204):
            size = range(len(court))
            found = tuple((here, side) for here in size for side in (0, 1) if support.lies(hearing, side, here))
            self.same(lies_of(court, hearing), found)
            means = [support.mean(court, hearing, here) for here in size]
            idle = tuple((here, side) for here, side in found if means[here] == value(court[here][1]))
            self.same(idle_lies(court, hearing), idle)
            told["idle"] += len(idle)
            told["other"] += len(found) - len(idle)
            share = sum(
                case[0] * (1 - value(hearing[0][here][here]) * value(hearing[1][here][here])) for here, case in enumerate(court)
            )
            self.same(lie_share(court, hearing), quotient(share / sum(case[0] for case in court)))
        self.assertGreater(min(told.values()), 50)

    def test_lie_share_and_off_share(self):
        fair = 0
        for court, hearing in idle_hearings(205):
            if support.hearing_fault(court, hearing) is None:
                self.assertGreaterEqual(value(lie_share(court, hearing)), value(off_share(court)))
                equal = lie_share(court, hearing) == off_share(court)
                self.assertEqual(equal, idle_lies(court, hearing) == ())
                fair += 1
        self.assertGreater(fair, 20)
        for court, _, dealing in deals(COURTS):
            hearing = hearing_of(court, dealing)
            self.same(idle_lies(court, hearing), ())
            self.same(lie_share(court, hearing), off_share(court))

    def test_by_hand(self):
        self.same(lies_of(PAIR, SAID), ((0, 0), (1, 1)))
        self.same(idle_lies(PAIR, SAID), ())
        self.same(lie_share(PAIR, SAID), (1, 1))
        self.same(lies_of(TWINS, (CROSSED, TRUE, NOUGHTS)), ((0, 0), (1, 0)))
        self.same(idle_lies(TWINS, (CROSSED, TRUE, NOUGHTS)), ((0, 0), (1, 0)))
        self.same(lie_share(TWINS, (CROSSED, TRUE, NOUGHTS)), (1, 1))
        # Both sides lie with a chance of 1 / 2 in case 0, which has 3 of 4 parts of the weight; both apart.
        half = (((1, 2), (1, 2)), TRUE[1])
        court = ((3,) + TWINS[0][1:], TWINS[1])
        self.same(lie_share(court, (half, half, NOUGHTS)), (9, 16))
        self.same(lies_of(court, (half, half, NOUGHTS)), ((0, 0), (0, 1)))
        self.same(lie_share(court, (TRUE, TRUE, NOUGHTS)), (0, 1))

    def test_refusals(self):
        for court in (PAIR, MIXED):
            hearing = hearing_of(court, dealing_of(court))
            for function in (lies_of, idle_lies, lie_share, first_open):
                self.check_parameters(function, {"court": court, "hearing": hearing}, {"hearing": wrong_hearings(court)})


def is_saddle_there(court, hearing, here, plea, reply):
    award = value(hearing[2][plea][reply])
    ups = [value(hearing[2][story][reply]) for story in support.stories(court, 0, here)]
    downs = [value(hearing[2][plea][story]) for story in support.stories(court, 1, here)]
    return max(ups) <= award <= min(downs)


class SaddlesTest(Case):
    def test_by_definition(self):
        told = {True: 0, False: 0}
        for court, hearing in hearings(206, COURTS)[::2]:
            expected = None
            for here in range(len(court)):
                ours, theirs = support.stories(court, 0, here), support.stories(court, 1, here)
                for plea in ours:
                    for reply in theirs:
                        result = is_saddle_there(court, hearing, here, plea, reply)
                        self.same(is_saddle(court, hearing, here, plea, reply), result)
                        told[result] += 1
                        is_told = hearing[0][here][plea][0] > 0 and hearing[1][here][reply][0] > 0
                        if is_told and not result and expected is None:
                            expected = (here, plea, reply)
                awards = {(plea, reply): value(hearing[2][plea][reply]) for plea in ours for reply in theirs}
                first = max(min(awards[plea, reply] for reply in theirs) for plea in ours)
                second = min(max(awards[plea, reply] for plea in ours) for reply in theirs)
                self.same(first_worth(court, hearing, 0, here), quotient(first))
                self.same(first_worth(court, hearing, 1, here), quotient(second))
            self.same(first_open(court, hearing), expected)
        self.assertGreater(min(told.values()), 100)

    def test_where_no_lie_is_idle(self):
        for court, best, dealing in deals(COURTS):
            hearing = hearing_of(court, dealing)
            self.same(first_open(court, hearing), None)
            for here in range(len(court)):
                for side in (0, 1):
                    self.same(first_worth(court, hearing, side, here), best[here])
        for court, hearing in idle_hearings(207):
            if support.hearing_fault(court, hearing) is None:
                idle = {here for here, _ in idle_lies(court, hearing)}
                for here in range(len(court)):
                    if here not in idle:
                        for side in (0, 1):
                            self.same(first_worth(court, hearing, side, here), best_table(court)[here])

    def test_by_hand(self):
        self.same(is_saddle(PAIR, SAID, 0, 1, 0), True)
        # The claimant would get more by telling 1.
        self.same(is_saddle(PAIR, SAID, 0, 0, 0), False)
        # The defendant would pay less by telling 0.
        self.same(is_saddle(PAIR, SAID, 0, 1, 1), False)
        self.same(first_open(PAIR, support.with_award(SAID, 0, 0, (2, 1))), (0, 1, 0))
        self.same(first_open(PAIR, support.with_award(SAID, 1, 1, (0, 1))), (0, 1, 0))
        # Only told pairs count, and case 1 comes behind case 0.
        self.same(first_open(PAIR, support.with_award(SAID, 0, 1, (-9, 1))), None)
        rows = (TRUE, TRUE)
        self.same(first_open(TWINS, rows + ((((0, 1), (0, 1)), ((0, 1), (-1, 1))),)), (1, 1, 1))

    def test_refusals(self):
        for court, here, plea, reply in ((PAIR, 0, 1, 0), (MIXED, 1, 2, 2)):
            hearing = hearing_of(court, dealing_of(court))
            wrong = {"hearing": wrong_hearings(court), "here": wrong_cases(court), "side": WRONG_SIDES}
            good = {"court": court, "hearing": hearing, "here": here, "plea": plea, "reply": reply}
            self.check_parameters(is_saddle, good, {**wrong, "plea": wrong_cases(court), "reply": wrong_cases(court)})
            good = {"court": court, "hearing": hearing, "side": 0, "here": here}
            self.check_parameters(first_worth, good, wrong)

    def test_stories_that_the_sides_can_not_tell_there(self):
        for court in COURTS[:40]:
            hearing = hearing_of(court, dealing_of(court))
            size = range(len(court))
            for here, plea, reply in product(size, size, size):
                if not support.tells(court, 0, here, plea):
                    self.refuses("plea", is_saddle, court, hearing, here, plea, reply)
                    self.refuses("plea", is_saddle, court, hearing, here, plea, None)
                elif not support.tells(court, 1, here, reply):
                    self.refuses("reply", is_saddle, court, hearing, here, plea, reply)


def can_do(court, sight, here, plea, counter):
    if court[here][4] != sight:
        return False
    told = []
    for side, thing in ((0, plea), (1, counter)):
        if isinstance(thing, tuple):
            told.append(is_within(thing, court[here][3][side]))
        else:
            told.append(support.tells(court, side, here, thing))
    return all(told)


def shown_by_words(court, best, dealing, sight, plea, counter):
    """The name of the way, and the award, that [61] tells; None if no case can do both."""
    doers = [here for here in range(len(court)) if can_do(court, sight, here, plea, counter)]
    if not doers:
        return None
    pulls = support.pulls(court, [value(award) for award in best])
    if not isinstance(plea, tuple) and not isinstance(counter, tuple):
        return "told", told_award(court, dealing, plea, counter)
    if isinstance(plea, tuple) and not isinstance(counter, tuple):
        if pulls[counter] >= 0 and is_within(plea, court[counter][3][0]):
            return "counter", court[counter][1]
        return "first behind counter", court[doers[0]][1]
    if not isinstance(plea, tuple):
        if pulls[plea] <= 0 and is_within(counter, court[plea][3][1]):
            return "plea", court[plea][1]
        return "first behind plea", court[doers[0]][1]
    return "both shown", court[doers[0]][1]


def stories_and_showings(dice, court, side):
    """Cases, and showings of the side within and beyond the holdings."""
    held = [case[3][side] for case in court]
    less = tuple(dice.randint(0, grade) for grade in dice.choice(held))
    return list(range(len(court))) + [(0,) * len(held[0]), less, (9,) * len(held[0])] + dice.sample(held, min(2, len(held)))


class ShowingsTest(Case):
    def test_shown_award(self):
        dice = random.Random(208)
        told = {}
        for court, best, dealing in deals(COURTS[:50]):
            sights = sorted({case[4] for case in court})[:2] + [77]
            ours, theirs = stories_and_showings(dice, court, 0), stories_and_showings(dice, court, 1)
            for sight, plea, counter in product(sights, ours, theirs):
                if dice.random() < 0.6:
                    continue
                expected = shown_by_words(court, best, dealing, sight, plea, counter)
                if expected is None:
                    self.refuses("counter", shown_award, court, dealing, sight, plea, counter)
                else:
                    self.same(shown_award(court, dealing, sight, plea, counter), expected[1])
                way = expected and expected[0]
                told[way] = told.get(way, 0) + 1
        self.assertEqual(len(told), 7)
        self.assertGreater(min(told.values()), 10)

    def test_shown_mean(self):
        dice = random.Random(209)
        for court, best, dealing in deals(COURTS):
            hearing = hearing_of(court, dealing)
            for here in range(len(court)):
                for side in (0, 1):
                    holding = court[here][3][side]
                    other = hearing[1 - side][here]
                    shown = dice.choice((holding, (0,) * len(holding), tuple(dice.randint(0, grade) for grade in holding)))
                    mean = 0
                    for story, chance in enumerate(other):
                        if chance[0]:
                            pair = (shown, story) if side == 0 else (story, shown)
                            mean += value(chance) * value(shown_award(court, dealing, court[here][4], *pair))
                    result = shown_mean(court, dealing, here, side, shown)
                    self.same(result, quotient(mean))
                    if side == 0:
                        self.assertLessEqual(value(result), value(best[here]))
                    else:
                        self.assertGreaterEqual(value(result), value(best[here]))

    def test_no_showing_gains(self):
        for court, best, dealing in deals(COURTS[:40]):
            for here, case in enumerate(court):
                for side in (0, 1):
                    grades = [range(grade + 1) for grade in case[3][side]]
                    for shown in list(product(*grades))[:16]:
                        gain = value(shown_mean(court, dealing, here, side, shown)) - value(best[here])
                        self.assertLessEqual(gain if side == 0 else -gain, 0)

    def test_by_hand(self):
        self.same(shown_mean(PAIR, DEALT, 0, 0, (0,)), (0, 1))
        self.same(shown_mean(PAIR, DEALT, 1, 1, ()), (1, 1))
        self.same(shown_award(PAIR, DEALT, 0, 1, 0), (1, 2))
        self.same(shown_award(PAIR, DEALT, 0, (1,), ()), (0, 1))
        self.refuses("counter", shown_award, PAIR, DEALT, 0, (2,), ())
        self.refuses("counter", shown_award, PAIR, DEALT, 1, (0,), ())
        self.refuses("counter", shown_award, SEEN, (), 0, 0, 1)
        self.refuses("counter", shown_award, SEEN, (), 1, 0, 0)
        self.same(shown_award(SEEN, (), 1, (), ()), (1, 1))
        # The pull of case 2 is below 0, so what the claimant shows against it is worth the first case that can do both.
        self.same(shown_award(COIN, dealing_of(COIN), 0, (0, 0), 2), (0, 1))
        self.same(shown_award(COPY, (), 0, (0,), 1), (1, 1))

    def test_shown_award_refusals(self):
        for court in (MIXED, COIN):
            dealing = dealing_of(court)
            ours, theirs = court[1][3]
            cases = tuple(bad for bad in wrong_cases(court) if not isinstance(bad, tuple))
            # 0 is no showing, but a case.
            showings = [tuple(bad for bad in wrong_showings(len(own)) if repr(bad) != "0") for own in (ours, theirs)]
            wrong = {
                "dealing": altered(dealing), "sight": WRONG_NUMBERS, "plea": cases + showings[0], "counter": cases + showings[1],
            }
            for plea, counter in ((1, 1), (ours, theirs), (1, theirs), (ours, 1)):
                good = {"court": court, "dealing": dealing, "sight": court[1][4], "plea": plea, "counter": counter}
                self.check_parameters(shown_award, good, wrong)

    def test_shown_mean_refusals(self):
        for court in (MIXED, COIN):
            dealing = dealing_of(court)
            wrong = {"dealing": altered(dealing), "here": wrong_cases(court), "side": WRONG_SIDES}
            for side in (0, 1):
                holding = court[0][3][side]
                beyond = tuple(holding[:at] + (holding[at] + 1,) + holding[at + 1:] for at in range(len(holding)))
                showings = wrong_showings(len(holding)) + beyond
                good = {"court": court, "dealing": dealing, "here": 0, "side": side, "shown": holding}
                self.check_parameters(shown_mean, good, {**wrong, "shown": showings})
