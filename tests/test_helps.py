"""[77] helps, [78] givings; (G9), and [82] as far as it speaks of them."""

import random

from oneistrue.best import best_table, least_wrong
from oneistrue.changes import with_grade
from oneistrue.courtchecker import is_court
from oneistrue.dealing import dealing_of
from oneistrue.exhibits import left_out
from oneistrue.givings import first_cut, grade_change, new_help, with_new
from oneistrue.helps import best_fact, exhibit_help, opening_help, sight_help
from oneistrue.sheets import opened
from tests import support
from tests.support import (
    CHAIN, COIN, COPY, EXAMPLES, FOUR, HIGH, MIXED, PAIR, SEEN, WRONG_NUMBERS, WRONG_SIDES, Case, all_alike, altered, chain,
    crowded_courts, made_courts, quotient, unlike, value, wrong_cases, wrong_exhibits,
)
from tests.test_facts import FILM, fact_sets, made_sheet, some_sheets, wrong_facts, wrong_sheets

FAMILIES = (all_alike(35), unlike(35), chain(35))
COURTS = EXAMPLES + (FOUR, HIGH) + FAMILIES + tuple(made_courts(30, 1, 8, seed=281)) + tuple(crowded_courts(20, 2, 6, seed=282))
GIVEN = ((0, 2, (1, 1)), (1, 2, (1, 1)))


def least(court):
    """The wrong of the best table, by the definition; a dealing proves that it is the least one."""
    best = best_table(court)
    assert support.is_dealing(court, best, dealing_of(court))
    return support.wrong(court, [value(award) for award in best])


def less_by(one, other):
    return quotient(least(one) - least(other))


class HelpsTest(Case):
    def test_opening(self):
        told = {True: 0, False: 0}
        for court, sheet in some_sheets(283, COURTS):
            helps = {}
            for facts in fact_sets(sheet):
                if len(sheet[0]) < 5 or len(facts) in (1, 5):
                    helps[facts] = less_by(court, opened(court, sheet, facts))
                    self.same(opening_help(court, sheet, facts), helps[facts])
                    self.assertGreaterEqual(value(helps[facts]), 0)
                    told[helps[facts] == (0, 1)] += 1
            self.same(opening_help(court=court, sheet=sheet, facts=()), (0, 1))
            for facts in helps:
                for more in helps:
                    if set(facts) <= set(more):
                        self.assertLessEqual(value(helps[facts]), value(helps[more]))
            self.check_best_fact(court, sheet, helps)
        self.assertGreater(min(told.values()), 50)

    def check_best_fact(self, court, sheet, helps):
        result = best_fact(court, sheet)
        self.same(best_fact(court=court, sheet=sheet), result)
        facts = range(len(sheet[0]))
        if not facts:
            self.same(result, None)
        else:
            self.assertIs(type(result), int)
            self.assertEqual(value(helps[(result,)]), max(value(helps[(fact,)]) for fact in facts))

    def test_exhibits(self):
        told = {True: 0, False: 0}
        for court in COURTS:
            for side in (0, 1):
                for exhibit in range(len(court[0][3][side])):
                    without = tuple(
                        case[:3] + (tuple(
                            tuple(0 if (at, spot) == (side, exhibit) else grade for spot, grade in enumerate(holding))
                            for at, holding in enumerate(case[3])
                        ), case[4]) for case in court
                    )
                    expected = less_by(without, court)
                    self.same(exhibit_help(court, side, exhibit), expected)
                    self.same(exhibit_help(court=court, side=side, exhibit=exhibit), expected)
                    self.assertGreaterEqual(value(expected), 0)
                    # (G9): it leaves the least wrong exactly if the best table is still rising.
                    awards = [value(award) for award in best_table(court)]
                    self.assertEqual(expected == (0, 1), support.is_rising(left_out(court, side, exhibit), awards))
                    told[expected == (0, 1)] += 1
        self.assertGreater(min(told.values()), 10)

    def test_sights(self):
        told = {True: 0, False: 0}
        for court in COURTS:
            blind = tuple(case[:4] + (0,) for case in court)
            self.same(sight_help(court), less_by(blind, court))
            self.same(sight_help(court=court), less_by(blind, court))
            self.assertGreaterEqual(value(sight_help(court)), 0)
            told[sight_help(court) == (0, 1)] += 1
        self.assertGreater(min(told.values()), 5)

    def test_by_hand(self):
        self.same([opening_help(COIN, FILM, facts) for facts in ((), (0,), (1,), (0, 1))], [(0, 1), (3, 2), (3, 2), (6, 1)])
        self.same((exhibit_help(COPY, 1, 0), exhibit_help(COPY, 0, 0), sight_help(SEEN)), ((1, 2), (0, 1), (1, 2)))
        self.same(best_fact(PAIR, ((7, 1), (7, 0))), 1)
        self.same(best_fact(PAIR, ((), ())), None)
        self.same(best_fact(COIN, ((0, 0, 0), (1, 0, 0), (1, 0, 1))), 2)

    def test_refusals(self):
        for court in (PAIR, COIN, MIXED):
            good = {"court": court, "sheet": made_sheet(random.Random(4), court, 2), "facts": (0,)}
            wrong = {"sheet": wrong_sheets(court), "facts": wrong_facts(2)}
            self.check_parameters(opening_help, good, wrong)
            good.pop("facts")
            self.check_parameters(best_fact, good, {"sheet": wrong["sheet"]})
        for court, side in ((PAIR, 0), (MIXED, 0), (MIXED, 1)):
            good = {"court": court, "side": side, "exhibit": 0}
            self.check_parameters(exhibit_help, good, {"side": WRONG_SIDES, "exhibit": wrong_exhibits(court, side)})
        self.refuses("exhibit", exhibit_help, PAIR, 1, 0)
        self.refuses("exhibit", exhibit_help, SEEN, 0, 0)


def with_one(court, side, grades):
    found = []
    for (weight, right, factors, holdings, sight), grade in zip(court, grades):
        own = list(holdings)
        own[side] = own[side] + (grade,)
        found.append((weight, right, factors, tuple(own), sight))
    return tuple(found)


def wrong_grades(court):
    good = (0,) * len(court)
    bad = (None, True, 0, "", [], list(good), good + (0,), good[1:], "0" * len(court), ((0,),) * len(court))
    return bad + tuple(good[1:] + (one,) for one in WRONG_NUMBERS)


class GivingsTest(Case):
    def test_new_exhibits(self):
        dice = random.Random(284)
        told = {True: 0, False: 0}
        for court in COURTS:
            for side in (0, 1):
                for most in (0, 1, 3, 60):
                    grades = tuple(dice.randint(0, most) for _ in court)
                    other = with_one(court, side, grades)
                    self.same(with_new(court, side, grades), other)
                    self.same(with_new(grades=grades, side=side, court=court), other)
                    self.same(is_court(other), True)
                    help_there = less_by(court, other)
                    self.same(new_help(court, side, grades), help_there)
                    self.same(new_help(court=court, side=side, grades=grades), help_there)
                    self.assertGreaterEqual(value(help_there), 0)
                    self.check_cut(court, side, grades, help_there)
                    told[help_there == (0, 1)] += 1
        self.assertGreater(min(told.values()), 50)

    def check_cut(self, court, side, grades, help_there):
        """[82]: it helps nothing exactly if for some dealing nothing is cut."""
        other = support.order(with_one(court, side, grades))
        uncut = False
        for amounts in support.corners(court, best_table(court)) if len(court) < 6 else []:
            dealing = support.as_dealing(amounts)
            gone = [pair for pair in sorted(amounts) if pair not in other]
            self.same(first_cut(court, dealing, side, grades), gone[0] if gone else None)
            self.same(first_cut(grades=grades, side=side, dealing=dealing, court=court), gone[0] if gone else None)
            uncut = uncut or not gone
        if len(court) < 6:
            # Dealings are mixtures of the corners; so one that keeps its disputes is found among these.
            self.assertEqual(uncut, help_there == (0, 1))

    def test_by_hand(self):
        self.same(with_new(PAIR, 1, (1, 0)), COPY)
        self.same(new_help(COIN, 1, (1, 0, 0)), (3, 2))
        self.same(first_cut(COIN, GIVEN, 1, (1, 0, 0)), (0, 2))
        self.same(first_cut(COIN, GIVEN, 1, (0, 1, 0)), (1, 2))
        self.same(first_cut(COIN, GIVEN, 1, (1, 1, 0)), (0, 2))
        self.same(first_cut(COIN, GIVEN, 0, (1, 1, 1)), None)
        self.same(first_cut(COIN, GIVEN, 0, (1, 1, 2)), (0, 2))
        self.same(first_cut(SEEN, (), 0, (0, 1)), None)

    def test_grade_change(self):
        told = set()
        for court in COURTS[:40]:
            for side in (0, 1):
                for exhibit in range(len(court[0][3][side])):
                    for here in range(len(court)):
                        last = max(case[3][side][exhibit] for case in court)
                        for grade in {0, last, last + 1, 60}:
                            expected = less_by(with_grade(court, side, here, exhibit, grade), court)
                            self.same(grade_change(court, side, here, exhibit, grade), expected)
                            told.add((expected[0] > 0) - (expected[0] < 0))
        self.same(grade_change(grade=2, exhibit=0, here=1, side=0, court=PAIR), (-1, 2))
        self.same(grade_change(PAIR, 0, 1, 0, 1), (0, 1))
        self.same(grade_change(COPY, 1, 0, 0, 0), (1, 2))
        self.assertEqual(told, {-1, 0, 1})

    def test_refusals(self):
        for court in (PAIR, COIN, MIXED, SEEN):
            good = {"court": court, "side": 0, "grades": (0,) * len(court)}
            wrong = {"side": WRONG_SIDES, "grades": wrong_grades(court)}
            self.check_parameters(with_new, good, wrong)
            self.check_parameters(new_help, good, wrong)
            dealing = dealing_of(court)
            good = {"court": court, "dealing": dealing, "side": 1, "grades": (3,) * len(court)}
            self.check_parameters(first_cut, good, {"dealing": altered(dealing), **wrong})
        for court, side in ((PAIR, 0), (MIXED, 0), (MIXED, 1), (CHAIN, 0)):
            good = {"court": court, "side": side, "here": 0, "exhibit": 0, "grade": 1}
            self.check_parameters(grade_change, good, {
                "side": WRONG_SIDES, "here": wrong_cases(court), "exhibit": wrong_exhibits(court, side), "grade": WRONG_NUMBERS,
            })
        self.refuses("exhibit", grade_change, PAIR, 1, 0, 0, 1)

    def test_least_wrong_is_told_alike(self):
        for court in COURTS:
            self.same(quotient(least(court)), least_wrong(court))
