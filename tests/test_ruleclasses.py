"""[72] Rule."""

import random

from oneistrue.bounds import is_bounded
from oneistrue.courtclasses import Court
from oneistrue.ruleclasses import Rule
from oneistrue.rulemending import cut_award
from oneistrue.ruleplays import rule_table
from tests.support import (
    ANYTHING, COPY, MIXED, PAIR, SEEN, WRONG_COURTS, WRONG_NUMBERS, WRONG_SIDES, Case,
)
from tests.test_bounds import wrong_showings
from tests.test_rules import GIVE, award, made_showing, some_rules, worth, wrong_rules


class RuleTest(Case):
    def test_no_court_or_no_rule(self):
        for bad in WRONG_COURTS + (Court(PAIR), Rule(PAIR, GIVE)):
            for rule in (GIVE, None):
                self.refuses("court", Rule, bad, rule)
                self.refuses("court", Rule, rule=rule, court=bad)
        for court in (PAIR, MIXED, SEEN):
            for bad in wrong_rules(court) + ANYTHING + (Rule(PAIR, GIVE), Court(PAIR)):
                self.refuses("rule", Rule, court, bad)
                self.refuses("rule", Rule, rule=bad, court=court)

    def test_properties(self):
        for court, rule in some_rules(251):
            one = Rule(court, rule)
            self.same(one.inner, (court, rule))
            self.same(one.rows_in, rule[0])
            self.same(one.fallback_award, rule[1])
            self.same(len(one), len(rule[0]))
            self.same(Rule(rule=rule, court=court) == one, True)
        for name in ("inner", "rows_in", "fallback_award"):
            self.assertIsInstance(vars(Rule)[name], property)
            with self.assertRaises(AttributeError):
                setattr(Rule(PAIR, GIVE), name, 0)

    def test_equality(self):
        one = Rule(PAIR, GIVE)
        heavy = tuple((2,) + case[1:] for case in PAIR)
        others = (Rule(PAIR, ((), (1, 1))), Rule(PAIR, (GIVE[0], (1, 2))), Rule(PAIR, (GIVE[0] * 2, (1, 1))), Rule(heavy, GIVE))
        self.same(one == Rule(PAIR, GIVE), True)
        self.same(one != Rule(PAIR, GIVE), False)
        for thing in others + ANYTHING + (GIVE, (PAIR, GIVE), Court(PAIR)):
            self.same(one == thing, False)
            self.same(thing == one, False)
            self.same(one != thing, True)

    def test_calls(self):
        dice = random.Random(252)
        for court, rule in some_rules(253, 2):
            box = Rule(court, rule)
            for _ in range(6):
                sight = dice.choice([case[4] for case in court] + [7])
                shown, counter = made_showing(dice, court, 0), made_showing(dice, court, 1)
                self.same(box(sight, shown, counter), award(rule, sight, shown, counter))
                self.same(box(counter=counter, shown=shown, sight=sight), award(rule, sight, shown, counter))
                for side in (0, 1):
                    table = rule_table(court, rule, side)
                    result = box.bounded(side, sight, shown, counter)
                    self.same(result, cut_award(court, rule, table, sight, shown, counter))
                    self.same(box.bounded(side=side, sight=sight, shown=shown, counter=counter), result)
                    self.same(is_bounded(court, table, sight, shown, counter, result), True)
            for side in (0, 1):
                self.same(box.worths(side), tuple(worth(rule, case, side) for case in court))
                self.same(box.worths(side=side), box.worths(side))
            self.same(box.inner, (court, rule))

    def test_refusals(self):
        for court in (PAIR, COPY, SEEN):
            rule = GIVE if court == PAIR else ((), (0, 1))
            box = Rule(court, rule)
            ours, theirs = court[0][3]
            good = {"sight": 0, "shown": ours, "counter": theirs}
            wrong = {"sight": WRONG_NUMBERS, "shown": wrong_showings(len(ours)), "counter": wrong_showings(len(theirs))}
            self.check_parameters(box.__call__, good, wrong)
            self.check_parameters(box.bounded, {"side": 1, **good}, {"side": WRONG_SIDES, **wrong})
            self.check_parameters(box.worths, {"side": 0}, {"side": WRONG_SIDES})
