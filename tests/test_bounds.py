"""[68] bounds."""

import random
from itertools import product

from oneistrue.best import best_table
from oneistrue.bounds import high_award, is_bounded, low_award
from tests import support
from tests.support import (
    COIN, EXAMPLES, FOUR, MIXED, PAIR, SEEN, WRONG_NUMBERS, WRONG_QUOTIENTS, Case, all_alike, chain, crowded_courts, is_within,
    made_courts, quotient, rising_table, unlike, value, wrong_tables,
)

FAMILIES = (all_alike(11), unlike(11), chain(11))
COURTS = EXAMPLES + (FOUR,) + FAMILIES + tuple(made_courts(40, 1, 8, seed=141)) + tuple(crowded_courts(15, 2, 8, seed=142))


def wrong_showings(many):
    good = (0,) * many
    return (
        None, True, 0, "", [], list(good), good + (0,), (0,) * (many + 2), (-1,) * many if many else (-1,), (True,) * many
        if many else (True,), ("0",) * many if many else ("0",), ((0,),) * (many + 1),
    ) + ((good[:-1], good[:-1] + (None,), good[:-1] + (False,), (-1,) + good[1:]) if many else ())


def showings(dice, court, side):
    """Showings of a side: holdings of cases, less, more, and beyond all of them."""
    many = len(court[0][3][side])
    held = [case[3][side] for case in court]
    made = [tuple(dice.randint(0, 4) for _ in range(many)) for _ in range(2)]
    return [(0,) * many, (9,) * many] + made + dice.sample(held, min(3, len(held)))


def bounds(court, table, sight, shown, counter):
    """The low and the high award by the words of [9], as Fractions or None."""
    lows, highs = [], []
    for case, award in zip(court, table):
        ours, theirs = case[3]
        if case[4] == sight:
            if is_within(ours, shown) and is_within(counter, theirs):
                lows.append(value(award))
            if is_within(shown, ours) and is_within(theirs, counter):
                highs.append(value(award))
    return max(lows) if lows else None, min(highs) if highs else None


class BoundsTest(Case):
    def test_by_definition(self):
        dice = random.Random(143)
        told = set()
        for court in COURTS:
            sights = sorted({case[4] for case in court})[:3] + [7, 10 ** 6]
            for table in (best_table(court), rising_table(dice, court)):
                places = product(sights, showings(dice, court, 0), showings(dice, court, 1))
                for sight, shown, counter in dice.sample(list(places), 24):
                    low, high = bounds(court, table, sight, shown, counter)
                    self.same(low_award(court, table, sight, shown, counter), low if low is None else quotient(low))
                    self.same(high_award(court, table, sight, shown, counter), high if high is None else quotient(high))
                    told.add((low is None, high is None))
                    if low is not None and high is not None:
                        self.assertLessEqual(low, high)
                    for award in (0, -3, 5, low, high, (low or 0) - 1, (high or 0) + 1):
                        if award is not None:
                            expected = (low is None or award >= low) and (high is None or award <= high)
                            award = quotient(award)
                            self.same(is_bounded(court, table, sight, shown, counter, award), expected)
        self.assertEqual(told, {(True, True), (True, False), (False, True), (False, False)})

    def test_all_shown_is_the_award(self):
        for court in COURTS:
            table = best_table(court)
            for case, award in zip(court, table):
                place = (court, table, case[4], case[3][0], case[3][1])
                self.same((low_award(*place), high_award(*place)), (award, award))
                self.same(is_bounded(*place, award), True)
                self.same(is_bounded(*place, quotient(value(award) + 1)), False)
                self.same(is_bounded(*place, quotient(value(award) - 1)), False)

    def test_by_hand(self):
        table = ((1, 1), (0, 1))
        self.same([low_award(PAIR, table, 0, (grade,), ()) for grade in (0, 1, 2)], [(0, 1), (1, 1), (1, 1)])
        self.same([high_award(PAIR, table, 0, (grade,), ()) for grade in (0, 1, 2)], [(0, 1), (1, 1), None])
        for sight in (1, 5, 10 ** 6):
            self.same((low_award(PAIR, table, sight, (1,), ()), high_award(PAIR, table, sight, (1,), ())), (None, None))
            self.same(is_bounded(PAIR, table, sight, (1,), (), (-100, 1)), True)
        self.same(high_award(COIN, ((2, 1), (3, 1), (1, 1)), 0, (1, 0), ()), (2, 1))
        self.same(low_award(COIN, ((2, 1), (3, 1), (1, 1)), 0, (1, 1), ()), (3, 1))
        # Awards are compared by value.
        self.same(low_award(COIN, ((1, 2), (2, 5), (1, 3)), 0, (1, 1), ()), (1, 2))
        self.same(high_award(COIN, ((1, 2), (2, 5), (1, 3)), 0, (0, 0), ()), (1, 3))
        self.same(is_bounded(PAIR, ((1, 2), (1, 3)), 0, (1,), (), (2, 5)), False)

    def test_parameters(self):
        for court in (PAIR, MIXED, SEEN):
            ours, theirs = court[0][3]
            good = {"court": court, "table": best_table(court), "sight": 0, "shown": ours, "counter": theirs}
            wrong = {
                "table": wrong_tables(court), "sight": WRONG_NUMBERS, "shown": wrong_showings(len(ours)),
                "counter": wrong_showings(len(theirs)),
            }
            self.check_parameters(low_award, good, wrong)
            self.check_parameters(high_award, good, wrong)
            self.check_parameters(is_bounded, {**good, "award": (1, 2)}, {**wrong, "award": WRONG_QUOTIENTS})

    def test_falling_behind_the_parameters(self):
        table = ((0, 1), (0, 1), (1, 1))
        fields = {"here": 0, "there": 2}
        self.raises("Falling", fields, low_award, COIN, table, 0, (0, 0), ())
        self.raises("Falling", fields, high_award, court=COIN, table=table, sight=3, shown=(0, 0), counter=())
        self.raises("Falling", fields, is_bounded, COIN, table, 0, (0, 0), (), (1, 1))
        for function in (low_award, high_award):
            self.refuses("sight", function, COIN, table, None, None, None)
            self.refuses("shown", function, COIN, table, 0, None, None)
            self.refuses("counter", function, COIN, table, 0, (0, 0), (0,))
        self.refuses("award", is_bounded, COIN, table, 0, (0, 0), (), 1)
        self.assertTrue(all(support.is_under(COIN, d, 2) for d in (0, 1)))
