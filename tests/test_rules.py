"""[69] rulechecker, [70] ruleplays, [71] rulemending; (G1), and [72] as far as it speaks of rules."""

import random
from itertools import product

from oneistrue.best import best_table
from oneistrue.bounds import high_award, is_bounded, low_award
from oneistrue.rulechecker import is_rule, lets_rule, rule_award
from oneistrue.rulemending import cut_award, first_harm, low_rule
from oneistrue.ruleplays import first_showing, rule_table, rule_worth, showings_of
from tests import support
from tests.support import (
    ANYTHING, CHAIN, COIN, COPY, EXAMPLES, FOUR, HIGH, MIXED, PAIR, SEEN, WRONG_NUMBERS, WRONG_QUOTIENTS, WRONG_SIDES, Case,
    all_alike, chain, crowded_courts, is_within, made_courts, made_right, rising_table, unlike, value, wrong_cases, wrong_tables,
)
from tests.test_bounds import wrong_showings

FAMILIES = (all_alike(25, 6), unlike(25, 6), chain(25, 6))
MADE = tuple(made_courts(30, 1, 6, seed=231)) + tuple(crowded_courts(10, 2, 6, seed=232))
GIVE = (((0, (1,), (), (2, 1)),), (1, 1))
# Each side wants to go second: the award is 1 if both show as much, else 0.
MATCH = (((0, (1,), (0,), (0, 1)), (0, (1,), (1,), (1, 1)), (0, (0,), (0,), (1, 1))), (0, 1))


def within(holding):
    """All showings within the holding, by counting all that could be."""
    return [shown for shown in product(range(max(holding, default=0) + 1), repeat=len(holding)) if is_within(shown, holding)]


def bounds_at(court, sight):
    """The greatest grades of both sides in the cases of the sight."""
    holdings = [case[3] for case in court if case[4] == sight]
    return [tuple(map(max, zip(*(holding[side] for holding in holdings)))) if holdings[0][side] else () for side in (0, 1)]


def is_small(court):
    """Whether there are at most sixteen showings of a side at each sight, as [12] limits."""
    sights = {case[4] for case in court}
    return all(len(within(bound)) <= 16 for sight in sights for bound in bounds_at(court, sight))


def steps(seed):
    """A chain of cases of both sides' exhibits, with few showings."""
    return tuple(case[:3] + (((3 - at // 2,), (at // 2,)), 0) for at, case in enumerate(all_alike(seed, 6)))


COURTS = tuple(court for court in EXAMPLES + (FOUR, HIGH) + FAMILIES + MADE if is_small(court)) + (steps(26),)


def made_showing(dice, court, side):
    held = dice.choice(court)[3][side]
    return dice.choice((held, held, tuple(max(0, grade - 1) for grade in held), tuple(dice.randint(0, 3) for _ in held)))


def made_rule(dice, court, many=None):
    """A rule of so many lines, by the dice; some lines have a sight that no case has."""
    sights = sorted({case[4] for case in court}) * 3 + [7]
    lines = tuple(
        (dice.choice(sights), made_showing(dice, court, 0), made_showing(dice, court, 1), made_right(dice))
        for _ in range(dice.choice((0, 1, 2, 3, 5, 8)) if many is None else many)
    )
    return lines, made_right(dice)


def some_rules(seed, each=3):
    dice = random.Random(seed)
    return [(court, made_rule(dice, court)) for court in COURTS for _ in range(each)] + [(COPY, MATCH)]


def award(rule, sight, shown, counter):
    """What the rule tells, by the words of [9]."""
    counting = [
        line for line in rule[0] if line[0] == sight and is_within(line[1], shown) and is_within(counter, line[2])
    ]
    return counting[0][3] if counting else rule[1]


def first_worth(rule, case, side, shown):
    """What the side gets by showing this first."""
    ours, theirs = case[3]
    if side == 0:
        return min((award(rule, case[4], shown, counter) for counter in within(theirs)), key=value)
    return max((award(rule, case[4], told, shown) for told in within(ours)), key=value)


def worth(rule, case, side):
    awards = [first_worth(rule, case, side, shown) for shown in within(case[3][side])]
    return max(awards, key=value) if side == 0 else min(awards, key=value)


def wrong_lines(court):
    """Lines by the word that tells what is wrong with them."""
    ours, theirs = court[0][3]
    good = (0, ours, theirs, (1, 2))
    wrong = {"line": [None, True, (), list(good), good[:3], good + (0,), "line", 0]}
    wrong["sight"] = [(bad,) + good[1:] for bad in WRONG_NUMBERS] + [(None,) * 4]
    wrong["shown"] = [(0, bad, theirs, (1, 2)) for bad in wrong_showings(len(ours))] + [(0, None, None, None)]
    wrong["counter"] = [(0, ours, bad, (1, 2)) for bad in wrong_showings(len(theirs))] + [(0, ours, None, None)]
    wrong["award"] = [good[:3] + (bad,) for bad in WRONG_QUOTIENTS]
    return wrong


def wrong_rules(court):
    rule = made_rule(random.Random(8), court, 2)
    lines, fallback = rule
    wrong = [None, True, (), [], list(rule), rule + (0,), rule[:1], (list(lines), fallback), (None, fallback), "rule", GIVE[0]]
    wrong += [(lines, bad) for bad in WRONG_QUOTIENTS]
    wrong += [(lines[:1] + (bad,), fallback) for bads in wrong_lines(court).values() for bad in bads]
    return tuple(wrong)


class CheckerTest(Case):
    def test_good_rules(self):
        lengths = set()
        for court, rule in some_rules(233):
            self.same(lets_rule(court, rule), len(rule[0]))
            self.same(lets_rule(court=court, thing=rule), len(rule[0]))
            self.same(is_rule(court, rule), True)
            self.same(is_rule(court=court, thing=rule), True)
            lengths.add(len(rule[0]))
        self.assertEqual(lengths, {0, 1, 2, 3, 5, 8})

    def test_shape_and_fallback(self):
        for court in (PAIR, MIXED, SEEN):
            lines, fallback = made_rule(random.Random(1), court, 3)
            shapes = (
                None, True, 0, "", (), [], (lines,), (lines, fallback, fallback), [lines, fallback], (list(lines), fallback),
                (None, fallback), (fallback[0], fallback), (None, None), "ab", lines[:1],
            )
            for bad in shapes + ANYTHING[:20]:
                self.check_paper("shape", -1, lets_rule, court, bad)
                self.same(is_rule(court, bad), False)
            for bad in WRONG_QUOTIENTS:
                self.check_paper("fallback", 1, lets_rule, court, (lines, bad))
                self.check_paper("fallback", 1, lets_rule, court, (lines + (None,), bad))
                self.same(is_rule(court, (lines, bad)), False)

    def test_each_word_of_the_lines(self):
        for court in (PAIR, COPY, MIXED, SEEN, COIN):
            good, fallback = made_rule(random.Random(2), court, 7)
            for word, bads in wrong_lines(court).items():
                for bad in bads:
                    for i in (0, 1, 7):
                        wrong = (good[:i] + (bad,) + good[i:], fallback)
                        self.check_paper(word, i, lets_rule, court, wrong)
                        self.same(is_rule(court, wrong), False)

    def test_the_first_of_two_faults(self):
        wrong = wrong_lines(COPY)
        good, fallback = made_rule(random.Random(3), COPY, 3)
        for word, bads in wrong.items():
            for other, rest in wrong.items():
                rule = (good[:1] + (bads[0],) + good[1:] + (rest[0],), fallback)
                self.check_paper(word, 1, lets_rule, COPY, rule)
        names = ("sight", "shown", "counter", "award")
        for at, word in enumerate(names):
            line = tuple(None if spot >= at else good[0][spot] for spot in range(4))
            self.check_paper(word, 0, lets_rule, COPY, ((line,), fallback))

    def test_award(self):
        dice = random.Random(234)
        for court, rule in some_rules(235):
            for _ in range(12):
                sight = dice.choice([case[4] for case in court] + [7, 8])
                shown, counter = made_showing(dice, court, 0), made_showing(dice, court, 1)
                expected = award(rule, sight, shown, counter)
                self.same(rule_award(court, rule, sight, shown, counter), expected)
                self.same(rule_award(court=court, rule=rule, sight=sight, shown=shown, counter=counter), expected)

    def test_award_by_hand(self):
        self.same([rule_award(PAIR, GIVE, 0, (grade,), ()) for grade in (0, 1, 2)], [(1, 1), (2, 1), (2, 1)])
        self.same(rule_award(PAIR, GIVE, 1, (1,), ()), (1, 1))
        lines = ((0, (0,), (1,), (3, 1)), (0, (0,), (9,), (4, 1)))
        self.same([rule_award(COPY, (lines, (0, 1)), 0, (0,), (grade,)) for grade in (0, 1, 2, 9, 10)], [
            (3, 1), (3, 1), (4, 1), (4, 1), (0, 1),
        ])
        self.same(rule_award(SEEN, ((), (5, 7)), 10 ** 6, (), ()), (5, 7))

    def test_award_refusals(self):
        for court in (PAIR, MIXED, SEEN):
            good = {"court": court, "rule": made_rule(random.Random(4), court), "sight": 0}
            good.update(shown=court[0][3][0], counter=court[0][3][1])
            wrong = {"rule": wrong_rules(court), "sight": WRONG_NUMBERS}
            wrong.update(shown=wrong_showings(len(court[0][3][0])), counter=wrong_showings(len(court[0][3][1])))
            self.check_parameters(rule_award, good, wrong)


class PlaysTest(Case):
    def test_showings(self):
        for holding in ((), (0,), (3,), (1, 1), (0, 2, 1), (3, 3), (2, 0, 0, 1), (3, 3, 3, 3)):
            self.same(showings_of(holding), tuple(within(holding)))
            self.same(showings_of(holding=holding), tuple(within(holding)))
        self.same(showings_of((255,)), tuple((grade,) for grade in range(256)))
        for bad in (None, True, 1, "", [], [1], (-1,), (True,), (1, None), ("1",), ((1,),), (1, (1, 2))):
            self.refuses("holding", showings_of, bad)
            self.refuses("holding", showings_of, holding=bad)

    def test_by_definition(self):
        told = set()
        for court, rule in some_rules(236):
            tables = []
            for side in (0, 1):
                worths = tuple(worth(rule, case, side) for case in court)
                tables.append(worths)
                self.same(rule_table(court, rule, side), worths)
                self.same(rule_table(court=court, rule=rule, side=side), worths)
                self.assertTrue(support.is_rising(court, [value(one) for one in worths]))
                for here, case in enumerate(court):
                    self.same(rule_worth(court, rule, side, here), worths[here])
                    self.same(rule_worth(court=court, rule=rule, side=side, here=here), worths[here])
                    best = [shown for shown in within(case[3][side]) if first_worth(rule, case, side, shown) == worths[here]]
                    self.same(first_showing(court, rule, side, here), best[0])
                    self.same(first_showing(court=court, rule=rule, side=side, here=here), best[0])
                    told.add((side, best[0] == case[3][side]))
            self.assertTrue(all(value(one) <= value(other) for one, other in zip(*tables)))
            told.add(tables[0] == tables[1])
        self.assertEqual(told, {(0, True), (0, False), (1, True), (1, False), True, False})

    def test_who_goes_first(self):
        self.same(rule_table(COPY, MATCH, 0), ((0, 1), (1, 1)))
        self.same(rule_table(COPY, MATCH, 1), ((1, 1), (1, 1)))
        self.same([first_showing(COPY, MATCH, side, 0) for side in (0, 1)], [(0,), (0,)])

    def test_rules_of_no_line_and_of_eight(self):
        dice = random.Random(237)
        for court in COURTS:
            for side in (0, 1):
                self.same(rule_table(court, ((), (2, 3)), side), ((2, 3),) * len(court))
                self.same(first_harm(court, ((), (2, 3)), side), None)
                rule = made_rule(dice, court, 8)
                self.same(rule_table(court, rule, side), tuple(worth(rule, case, side) for case in court))
        # Lines with a sight that no case has never count.
        self.same(rule_table(SEEN, (((7, (), (), (1, 1)),), (0, 1)), 0), ((0, 1), (0, 1)))
        self.same(first_harm(PAIR, (((7, (1,), (), (0, 1)),), (1, 1)), 0), None)

    def test_refusals(self):
        for court in (PAIR, MIXED, SEEN):
            good = {"court": court, "rule": made_rule(random.Random(6), court), "side": 1, "here": 0}
            wrong = {"rule": wrong_rules(court), "side": WRONG_SIDES, "here": wrong_cases(court)}
            self.check_parameters(rule_worth, good, wrong)
            self.check_parameters(first_showing, good, wrong)
            good.pop("here")
            self.check_parameters(rule_table, good, {key: wrong[key] for key in ("rule", "side")})
            self.check_parameters(first_harm, good, {key: wrong[key] for key in ("rule", "side")})


def cut(court, rule, table, sight, shown, counter):
    """The awards of cut_award as a rule does not tell them, by the words of [71]."""
    told = value(award(rule, sight, shown, counter))
    low, high = low_award(court, table, sight, shown, counter), high_award(court, table, sight, shown, counter)
    told = told if low is None else max(told, value(low))
    return told if high is None else min(told, value(high))


def cut_worth(court, rule, table, case, side):
    """The award in the case if the awards of cut_award are played by turns, the side first."""
    ours, theirs = within(case[3][0]), within(case[3][1])
    awards = {(shown, counter): cut(court, rule, table, case[4], shown, counter) for shown in ours for counter in theirs}
    if side == 0:
        return max(min(awards[shown, counter] for counter in theirs) for shown in ours)
    return min(max(awards[shown, counter] for shown in ours) for counter in theirs)


def harms(rule, side, sight, shown, counter, exhibit):
    """Whether one grade more of the exhibit is worse for the side that shows it."""
    own = (shown, counter)[side]
    more = own[:exhibit] + (own[exhibit] + 1,) + own[exhibit + 1:]
    before = value(award(rule, sight, shown, counter))
    after = value(award(rule, sight, *((more, counter) if side == 0 else (shown, more))))
    return after < before if side == 0 else after > before


def all_harms(court, rule, side):
    found = []
    for sight in {case[4] for case in court}:
        bounds = bounds_at(court, sight)
        for shown, counter in product(within(bounds[0]), within(bounds[1])):
            for exhibit, most in enumerate(bounds[side]):
                if (shown, counter)[side][exhibit] < most and harms(rule, side, sight, shown, counter, exhibit):
                    found.append((sight, shown, counter, exhibit))
    return found


class MendingTest(Case):
    def test_low_rule(self):
        dice = random.Random(238)
        for court in COURTS:
            for table in (best_table(court), rising_table(dice, court), rising_table(dice, court, ((1, 1), (1, 2), (2, 5)))):
                cases = sorted(range(len(court)), key=lambda here: (-value(table[here]), here))
                lines = tuple((court[here][4],) + court[here][3] + (table[here],) for here in cases)
                rule = low_rule(court, table)
                self.same(rule, (lines, min(table, key=value)))
                self.same(low_rule(court=court, table=table), rule)
                self.same(is_rule(court, rule), True)
                self.same([rule_table(court, rule, side) for side in (0, 1)], [table, table])

    def test_low_rule_refusals(self):
        for court in (PAIR, MIXED, SEEN):
            self.check_parameters(low_rule, {"court": court, "table": best_table(court)}, {"table": wrong_tables(court)})
        self.raises("Falling", {"here": 0, "there": 1}, low_rule, PAIR, ((1, 1), (2, 1)))
        self.raises("Falling", {"here": 1, "there": 2}, low_rule, court=COIN, table=((2, 1), (0, 1), (1, 1)))

    def test_cut_award(self):
        dice = random.Random(239)
        for court, rule in some_rules(240, 2):
            for table in (best_table(court), rising_table(dice, court)):
                for side in (0, 1):
                    worths = [cut_worth(court, rule, table, case, side) for case in court]
                    self.assertEqual(worths, [value(one) for one in table])
                for _ in range(10):
                    place = (dice.choice([case[4] for case in court] + [7]), made_showing(dice, court, 0), made_showing(dice, court, 1))
                    result = cut_award(court, rule, table, *place)
                    self.assertEqual(value(result), cut(court, rule, table, *place))
                    names = dict(zip(("sight", "shown", "counter"), place))
                    self.same(cut_award(court=court, rule=rule, table=table, **names), result)
                    self.same(is_bounded(court, table, *place, result), True)

    def test_all_shown(self):
        dice = random.Random(241)
        for court, rule in some_rules(242, 1):
            table = rising_table(dice, court)
            for case, own in zip(court, table):
                ours, theirs = case[3]
                self.same(cut_award(court, rule, table, case[4], ours, theirs), own)
                for shown in within(ours):
                    self.assertLessEqual(value(cut_award(court, rule, table, case[4], shown, theirs)), value(own))
                for counter in within(theirs):
                    self.assertGreaterEqual(value(cut_award(court, rule, table, case[4], ours, counter)), value(own))

    def test_cut_award_refusals(self):
        for court in (PAIR, MIXED, SEEN):
            ours, theirs = court[0][3]
            good = {"court": court, "rule": made_rule(random.Random(7), court), "table": best_table(court), "sight": 0}
            good.update(shown=ours, counter=theirs)
            wrong = {"rule": wrong_rules(court), "table": wrong_tables(court), "sight": WRONG_NUMBERS}
            wrong.update(shown=wrong_showings(len(ours)), counter=wrong_showings(len(theirs)))
            self.check_parameters(cut_award, good, wrong)
        falling = ((0, 1), (1, 1))
        self.raises("Falling", {"here": 0, "there": 1}, cut_award, PAIR, GIVE, falling, 0, (1,), ())
        self.raises("Falling", {"here": 0, "there": 1}, cut_award, PAIR, GIVE, table=falling, sight=5, shown=(0,), counter=())
        self.refuses("rule", cut_award, PAIR, None, falling, 0, (1,), ())
        self.refuses("sight", cut_award, PAIR, GIVE, falling, True, (1,), ())
        self.refuses("shown", cut_award, PAIR, GIVE, falling, 0, (True,), ())
        self.refuses("counter", cut_award, PAIR, GIVE, falling, 0, (1,), (1,))

    def test_first_harm(self):
        told = {(side, found): 0 for side in (0, 1) for found in (True, False)}
        for court, rule in some_rules(243):
            for side in (0, 1):
                found = all_harms(court, rule, side)
                harm = first_harm(court, rule, side)
                self.same(first_harm(court=court, rule=rule, side=side), harm)
                self.assertEqual(harm is None, not found)
                if found:
                    self.assertIn(repr(harm), [repr(one) for one in found])
                told[side, bool(found)] += 1
        self.assertGreater(min(told.values()), 15)

    def test_first_harm_by_hand(self):
        self.same(first_harm(PAIR, (((0, (1,), (), (0, 1)),), (1, 1)), 0), (0, (0,), (), 0))
        self.same(first_harm(PAIR, GIVE, 0), None)
        self.same(first_harm(PAIR, GIVE, 1), None)
        # Beyond the greatest grade of the cases nothing is asked.
        self.same(first_harm(PAIR, (((0, (2,), (), (0, 1)),), (1, 1)), 0), None)
        self.same(first_harm(COPY, (((0, (0,), (0,), (0, 1)),), (1, 1)), 1), (0, (0,), (0,), 0))
        self.same(first_harm(COPY, (((0, (1,), (0,), (0, 1)),), (1, 1)), 1), (0, (1,), (0,), 0))
        self.same(first_harm(COPY, (((0, (0,), (0,), (1, 1)),), (0, 1)), 1), None)
        # An exhibit that no case of the sight has is not shown there.
        court = ((1, (0, 1), (1, 1), ((1,), ()), 0), (1, (0, 1), (1, 1), ((0,), ()), 1))
        self.same(first_harm(court, (((1, (1,), (), (0, 1)),), (1, 1)), 0), None)
        self.same(first_harm(court, (((0, (1,), (), (0, 1)),), (1, 1)), 0), (0, (0,), (), 0))

    def test_no_harm_at_all(self):
        """(G1) and [72]: where more shown never harms, the table is the awards of all shown, and no award is cut."""
        found = 0
        dice = random.Random(244)
        rules = some_rules(245, 4) + [(court, low_rule(court, rising_table(dice, court))) for court in COURTS]
        for court, rule in rules:
            if all_harms(court, rule, 0) or all_harms(court, rule, 1):
                continue
            table = tuple(award(rule, case[4], *case[3]) for case in court)
            self.same([rule_table(court, rule, side) for side in (0, 1)], [table, table])
            for sight in {case[4] for case in court}:
                for shown, counter in product(*map(within, bounds_at(court, sight))):
                    self.same(cut_award(court, rule, table, sight, shown, counter), award(rule, sight, shown, counter))
            found += 1
        self.assertGreater(found, 50)
