"""[23] telling, [24] hiding; the first two sentences of [32]."""

import random

from oneistrue.hiding import hides, order_of, over_of, under_of
from oneistrue.telling import can_tell, holding_within, stories_of, tellers_of
from tests import support
from tests.support import COIN, EXAMPLES, MIXED, PAIR, Case, made_court, made_courts, wrong_cases

COURTS = EXAMPLES + tuple(made_courts(60, 1, 8, seed=8))


class TellingTest(Case):
    def test_holding_within(self):
        for one, other, told in (
            ((), (), True), ((0,), (0,), True), ((0,), (1,), True), ((1,), (0,), False), ((1, 0), (1, 2), True),
            ((1, 2), (1, 0), False), ((2, 0), (1, 3), False), ((0, 3), (1, 2), False), ((1, 1, 1), (1, 1, 1), True),
        ):
            self.same(holding_within(one, other), told)
            self.same(holding_within(one=one, other=other), told)

    def test_holding_refusals(self):
        bad = (None, True, 0, "", "12", [0, 1], (0, -1), (-1, 0), (0, True), (False, 0), ("0", 1), (0, None), (0, (1,)))
        wrong = {"one": bad, "other": bad + ((), (0,), (0, 1, 2))}
        self.check_parameters(holding_within, {"one": (0, 1), "other": (3, 4)}, wrong)
        self.refuses("other", holding_within, (), (0,))

    def test_by_definition(self):
        for court in COURTS:
            cases = range(len(court))
            for side in (0, 1):
                for here in cases:
                    told = [there for there in cases if support.tells(court, side, here, there)]
                    self.same(stories_of(court, side, here), tuple(told))
                    for there in cases:
                        self.same(can_tell(court, side, here, there), there in told)
            for plea in cases:
                for reply in cases:
                    told = tuple(
                        here for here in cases
                        if support.tells(court, 0, here, plea) and support.tells(court, 1, here, reply)
                    )
                    self.same(tellers_of(court, plea, reply), told)

    def test_refusals(self):
        for court in (PAIR, MIXED):
            cases = wrong_cases(court)
            good = {"court": court, "side": 1, "here": 0, "there": 1}
            self.check_parameters(can_tell, good, {"side": support.WRONG_SIDES, "here": cases, "there": cases})
            good = {"court": court, "side": 1, "here": 0}
            self.check_parameters(stories_of, good, {"side": support.WRONG_SIDES, "here": cases})
            good = {"court": court, "plea": 1, "reply": 0}
            self.check_parameters(tellers_of, good, {"plea": cases, "reply": cases})


class HidingTest(Case):
    def test_by_definition(self):
        for court in COURTS:
            cases = range(len(court))
            self.same(order_of(court), support.order(court))
            for here in cases:
                under = tuple(there for there in cases if support.is_under(court, here, there))
                over = tuple(there for there in cases if support.is_under(court, there, here))
                self.same(under_of(court, here), under)
                self.same(over_of(court, here), over)
                self.assertIn(here, under)
                self.assertIn(here, over)
                for there in cases:
                    self.same(hides(court, here, there), there in under)

    def test_what_keeps_from_hiding(self):
        low = (1, (0, 1), (1, 1), ((0,), (1,)), 0)
        high = (1, (0, 1), (1, 1), ((1,), (0,)), 0)
        self.same(order_of((low, high)), ((1, 0),))
        self.same(order_of((low, high[:4] + (1,))), ())
        self.same(order_of((low, high[:3] + (((1,), (2,)), 0))), ())
        self.same(order_of((low, high[:3] + (((1,), (1,)), 0))), ((1, 0),))
        self.same(order_of((low, low)), ((0, 1), (1, 0)))

    def test_ten_cases(self):
        court = made_court(random.Random(1), 10)
        self.same(order_of(court), support.order(court))

    def test_hiding_and_telling_a_pair(self):
        for court in COURTS:
            for d in range(len(court)):
                for c in range(len(court)):
                    told = tellers_of(court, c, d)
                    self.same(hides(court, d, c), d in told and c in told)
                    self.assertLessEqual(len({court[here][4] for here in told}), 1)

    def test_refusals(self):
        for court in (COIN, MIXED):
            cases = wrong_cases(court)
            self.check_parameters(hides, {"court": court, "here": 0, "there": 1}, {"here": cases, "there": cases})
            self.check_parameters(under_of, {"court": court, "here": 1}, {"here": cases})
            self.check_parameters(over_of, {"court": court, "there": 1}, {"there": cases})
