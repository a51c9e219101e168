"""[62] Hearing."""

import random

from oneistrue.beliefs import belief_of
from oneistrue.courtclasses import Court
from oneistrue.dealclasses import Deal
from oneistrue.dealing import dealing_of
from oneistrue.hearingclasses import Hearing
from oneistrue.hearings import hearing_of
from oneistrue.lies import lies_of
from oneistrue.merging import turned
from oneistrue.outcomes import mean_award, table_from
from tests import support
from tests.support import (
    ANYTHING, CHAIN, COIN, COPY, EXAMPLES, FOUR, HIGH, PAIR, SEEN, WRONG_COURTS, Case, crowded_courts, made_courts,
    made_hearing, wrong_cases,
)
from tests.test_hearingchecker import changed
from tests.test_lies import idle_hearings
from tests.test_outcomes import DEALT, SAID, hearings, wrong_hearings

COURTS = EXAMPLES + (FOUR, HIGH) + tuple(made_courts(30, 1, 6, seed=211)) + tuple(crowded_courts(15, 2, 5, seed=212))


def some_hearings(seed):
    return hearings(seed, COURTS) + idle_hearings(seed)[:25]


class HearingTest(Case):
    def test_no_court_or_no_hearing(self):
        for bad in WRONG_COURTS + (Court(PAIR), Hearing(PAIR, SAID)):
            for hearing in (SAID, None):
                self.refuses("court", Hearing, bad, hearing)
                self.refuses("court", Hearing, hearing=hearing, court=bad)
        for court in (PAIR, COIN):
            for bad in wrong_hearings(court) + ANYTHING + (Hearing(PAIR, SAID),):
                self.refuses("hearing", Hearing, court, bad)
                self.refuses("hearing", Hearing, court=court, hearing=bad)

    def test_properties(self):
        fair = []
        for court, hearing in some_hearings(213):
            one, size = Hearing(court, hearing), range(len(court))
            self.same(one.inner, (court, hearing))
            self.same(one.gives, table_from(court, hearing))
            true = tuple(tuple(side for side in (0, 1) if not support.lies(hearing, side, here)) for here in size)
            self.same(one.true_sides, true)
            self.same(one.is_fair, support.hearing_fault(court, hearing) is None)
            told = [pair for pair in support.tellable(court) if any(support.pair_weights(court, hearing, *pair))]
            self.same(len(one), len(told))
            self.assertEqual(len(lies_of(court, hearing)) + sum(map(len, true)), 2 * len(court))
            self.same(Hearing(court=court, hearing=hearing) == one, True)
            fair.append(one.is_fair)
        self.assertGreater(sum(fair), 40)
        self.assertGreater(len(fair) - sum(fair), 40)

    def test_properties_are_not_assigned(self):
        for name in ("inner", "gives", "true_sides", "is_fair"):
            self.assertIsInstance(vars(Hearing)[name], property)
            with self.assertRaises(AttributeError):
                setattr(Hearing(PAIR, SAID), name, 0)

    def test_by_hand(self):
        one = Hearing(PAIR, SAID)
        self.same(one.gives, ((1, 2), (1, 2)))
        self.same(one.true_sides, ((1,), (0,)))
        self.same(Hearing(SEEN, hearing_of(SEEN, ())).true_sides, ((0, 1), (0, 1)))
        self.same(len(Hearing(COIN, hearing_of(COIN, dealing_of(COIN)))), 2)
        self.same(len(Hearing(FOUR, hearing_of(FOUR, dealing_of(FOUR)))), len(dealing_of(FOUR)))

    def test_equality(self):
        one = Hearing(PAIR, SAID)
        other = support.with_award(SAID, 1, 1, (2, 3))
        self.same(one == Hearing(PAIR, SAID), True)
        self.same(one != Hearing(PAIR, SAID), False)
        self.same(one == Hearing(PAIR, other), False)
        self.same(one != Hearing(PAIR, other), True)
        # The same hearing, but of another court.
        heavy = tuple((2,) + case[1:] for case in PAIR)
        self.same(one == Hearing(heavy, SAID), False)
        for thing in ANYTHING + (SAID, (PAIR, SAID), Court(PAIR), Deal(PAIR, DEALT)):
            self.same(one == thing, False)
            self.same(thing == one, False)
            self.same(one != thing, True)

    def test_call(self):
        for court, hearing in some_hearings(214)[:70]:
            one, told = Hearing(court, hearing), support.tellable(court)
            for plea in range(len(court)):
                for reply in range(len(court)):
                    if (plea, reply) in told:
                        self.same(one(plea, reply), hearing[2][plea][reply])
                        self.same(one(reply=reply, plea=plea), hearing[2][plea][reply])
                        self.same(one.belief(plea, reply), belief_of(court, hearing, plea, reply))
                        self.same(one.belief(reply=reply, plea=plea), belief_of(court, hearing, plea, reply))
                    else:
                        self.refuses("reply", one.__call__, plea, reply)
                        self.refuses("reply", one.__call__, reply=reply, plea=plea)
                        self.refuses("reply", one.belief, plea, reply)
            for here in range(len(court)):
                self.same(one.mean(here), mean_award(court, hearing, here))
                self.same(one.mean(here=here), mean_award(court, hearing, here))

    def test_refusals(self):
        one = Hearing(CHAIN, hearing_of(CHAIN, dealing_of(CHAIN)))
        cases = wrong_cases(CHAIN)
        for method in (one.__call__, one.belief):
            self.check_parameters(method, {"plea": 1, "reply": 0}, {"plea": cases, "reply": cases})
        self.check_parameters(one.mean, {"here": 0}, {"here": cases})
        apart = Hearing(SEEN, hearing_of(SEEN, ()))
        with self.assertRaises(support.NotUsable):
            apart(0, 1)
        self.refuses("plea", apart.__call__, 2, 0)

    def test_swapped(self):
        dice = random.Random(215)
        for court, hearing in some_hearings(216):
            for told in (hearing, changed(dice, court, hearing)):
                one = Hearing(court, told)
                result = one.swapped()
                self.assertIsInstance(result, Hearing)
                self.same(result.inner, support.turned_round(court, told))
                self.same(result.inner[0], turned(court))
                self.same(result.is_fair, one.is_fair)
                self.same(result.swapped() == one, True)
                self.same(len(result), len(one))
                self.same(one.inner, (court, told))
        self.same(Hearing(COPY, made_hearing(dice, COPY)).swapped().inner[0], turned(COPY))
