"""[15] courtchecker, [16] courts, [17] changes, [18] merging, and their consequences in [22]."""

import random
from fractions import Fraction

from oneistrue.changes import with_factors, with_grade, with_right, with_sight, with_weight
from oneistrue.courtchecker import is_court, lets_court
from oneistrue.courts import exhibits_of, holding_of, is_even, kept, mean_right, rights_of, weight_of
from oneistrue.merging import halved, merged, renamed, turned
from tests import support
from tests.support import (
    ANYTHING, COIN, EXAMPLES, MIXED, PAIR, SEEN, Case, all_lots, made_courts, quotient, value, wrong_cases,
    wrong_exhibits, wrong_lots,
)

FINE = (1, (1, 2), (1, 1), ((1, 0), (2,)), 0)


def changed(at, part):
    return FINE[:at] + (part,) + FINE[at + 1:]


FAULTS = {
    "case": (None, True, 0, "", (), FINE[:4], FINE + (0,), list(FINE), "12345", FINE[0]),
    "weight": tuple(changed(0, bad) for bad in support.WRONG_POSITIVES),
    "right": tuple(changed(1, bad) for bad in support.WRONG_QUOTIENTS),
    "factors": tuple(changed(2, bad) for bad in support.WRONG_FACTORS),
    "holdings": tuple(
        changed(3, bad) for bad in (
            None, (), ((1, 0),), ((1, 0), (2,), ()), [(1, 0), (2,)], ([1, 0], (2,)), ((1, 0), [2]), ((1, 0), (True,)),
            ((1, False), (2,)), ((1, -1), (2,)), ((1, 0), ("2",)), ((1, 0), None), (1, 2), "ab",
        )
    ),
    "sight": tuple(changed(4, bad) for bad in support.WRONG_NUMBERS),
}
# Well made, but not of as many grades as in FINE.
LENGTHS = (((1,), (2,)), ((1, 0, 0), (2,)), ((1, 0), ()), ((1, 0), (2, 0)), ((), ()), ((2,), (1, 0)))


class CheckerTest(Case):
    def test_lets(self):
        for court in EXAMPLES + tuple(made_courts(50)):
            self.same(lets_court(court), len(court))
            self.same(lets_court(thing=court), len(court))
            self.same(is_court(court), True)
        self.same(lets_court((FINE,) * 30), 30)
        self.same(is_court(thing=((70, (10 ** 16, 3), (61, 99), ((9,) * 6, ()), 10 ** 7),)), True)

    def test_shape(self):
        for bad in (None, True, 0, "", "a", (), [], [FINE]):
            self.check_paper("shape", -1, lets_court, bad)
            self.same(is_court(bad), False)

    def test_each_word_at_each_place(self):
        for word, cases in FAULTS.items():
            for bad in cases:
                for at in range(3):
                    court = (FINE,) * at + (bad,) + (FINE,) * (2 - at)
                    if at == 0 and word == "holdings":
                        court = court[:1]
                    with self.subTest(word=word, bad=bad, at=at):
                        self.check_paper(word, at, lets_court, court)
                        self.same(is_court(court), False)

    def test_lengths_of_holdings(self):
        for holdings in LENGTHS:
            for at in (1, 2):
                court = (FINE,) * at + (changed(3, holdings),)
                self.check_paper("holdings", at, lets_court, court)
                self.same(is_court(court), False)
            self.same(lets_court((changed(3, holdings),) * 2), 2)

    def test_which_of_two_faults(self):
        words = ("weight", "right", "factors", "holdings", "sight")
        for early in range(5):
            for late in range(early, 5):
                bad = FAULTS[words[early]][0]
                bad = bad[:late] + (FAULTS[words[late]][0][late],) + bad[late + 1:]
                self.check_paper(words[early], 1, lets_court, (FINE, bad, None))
        self.check_paper("sight", 0, lets_court, (FAULTS["sight"][0], None))
        self.check_paper("case", 0, lets_court, (None, FAULTS["weight"][0]))
        self.check_paper("holdings", 1, lets_court, (FINE, changed(4, -1)[:3] + (((), ()), -1)))

    def test_any_value(self):
        for thing in ANYTHING:
            self.assertIn(repr(is_court(thing)), ("True", "False"))


class CourtsTest(Case):
    def test_weight_of(self):
        for court in EXAMPLES:
            for lot in all_lots(len(court)):
                self.same(weight_of(court, lot), sum(court[k][0] for k in lot))
        self.same(weight_of(MIXED, ()), 0)

    def test_reading(self):
        for court in EXAMPLES + tuple(made_courts(30)):
            self.same(rights_of(court), tuple(case[1] for case in court))
            for side in (0, 1):
                self.same(exhibits_of(court, side), len(court[0][3][side]))
                for here, case in enumerate(court):
                    self.same(holding_of(court, side, here), case[3][side])

    def test_mean_right(self):
        self.same(mean_right(COIN), (1, 1))
        self.same(mean_right(((2, (1, 1), (1, 1), ((), ()), 0), (1, (0, 1), (9, 1), ((), ()), 3))), (2, 3))
        for court in EXAMPLES + tuple(made_courts(50)):
            top = sum(case[0] * value(case[1]) for case in court)
            self.same(mean_right(court), quotient(Fraction(top) / sum(case[0] for case in court)))

    def test_is_even(self):
        self.same(is_even(PAIR), True)
        self.same(is_even(support.STEEP), False)
        self.same(is_even(MIXED), False)
        self.same(is_even(with_factors(PAIR, 1, (7, 7))), True)
        self.same(is_even(with_factors(PAIR, 1, (1, 2))), False)
        self.same(is_even(with_factors(PAIR, 0, (2, 1))), False)

    def test_kept(self):
        for court in EXAMPLES:
            for lot in all_lots(len(court))[1:]:
                self.same(kept(court, lot), tuple(court[k] for k in lot))

    def test_refusals(self):
        for court in (PAIR, MIXED):
            lots, cases = wrong_lots(court), wrong_cases(court)
            self.check_parameters(weight_of, {"court": court, "lot": (0, 1)}, {"lot": lots})
            self.check_parameters(kept, {"court": court, "lot": (0, 1)}, {"lot": lots + ((),)})
            wrong = {"side": support.WRONG_SIDES, "here": cases}
            self.check_parameters(holding_of, {"court": court, "side": 1, "here": 1}, wrong)
            wrong = {"side": support.WRONG_SIDES}
            self.check_parameters(exhibits_of, {"court": court, "side": 0}, wrong)


class ChangesTest(Case):
    def check_change(self, function, at, parts, wrong):
        for here in range(len(MIXED)):
            for part in parts:
                case = MIXED[here][:at] + (part,) + MIXED[here][at + 1:]
                self.same(function(MIXED, here, part), MIXED[:here] + (case,) + MIXED[here + 1:])
        name = function.__name__.removeprefix("with_")
        good = {"court": MIXED, "here": 2, name: parts[0]}
        self.check_parameters(function, good, {"here": wrong_cases(MIXED), name: wrong})

    def test_parts(self):
        self.check_change(with_weight, 0, (1, 7, 60), support.WRONG_POSITIVES)
        self.check_change(with_right, 1, ((0, 1), (-7, 2)), support.WRONG_QUOTIENTS)
        self.check_change(with_factors, 2, ((1, 1), (3, 60)), support.WRONG_FACTORS)
        self.check_change(with_sight, 4, (0, 9, 10 ** 6), support.WRONG_NUMBERS)

    def test_grades(self):
        for side in (0, 1):
            for here, case in enumerate(MIXED):
                for exhibit in range(len(case[3][side])):
                    for grade in (0, 1, 3):
                        holding = list(case[3][side])
                        holding[exhibit] = grade
                        holdings = list(case[3])
                        holdings[side] = tuple(holding)
                        new = case[:3] + (tuple(holdings), case[4])
                        result = with_grade(MIXED, side, here, exhibit, grade)
                        self.same(result, MIXED[:here] + (new,) + MIXED[here + 1:])

    def test_grade_refusals(self):
        for side in (0, 1):
            good = {"court": MIXED, "side": side, "here": 1, "exhibit": 0, "grade": 2}
            wrong = {
                "side": support.WRONG_SIDES, "here": wrong_cases(MIXED), "exhibit": wrong_exhibits(MIXED, side),
                "grade": support.WRONG_NUMBERS,
            }
            self.check_parameters(with_grade, good, wrong)
        self.refuses("exhibit", with_grade, PAIR, 1, 0, 0, 0)
        self.refuses("exhibit", with_grade, SEEN, 0, 0, 0, 0)

    def test_nothing_changes(self):
        before = repr(MIXED)
        with_weight(MIXED, 0, 9)
        with_grade(MIXED, 0, 0, 0, 3)
        turned(MIXED)
        self.assertEqual(repr(MIXED), before)


class MergingTest(Case):
    def test_merged_of_alike_but_one_part(self):
        base = (2, (1, 2), (1, 1), ((1,), (0,)), 0)
        for at, part in ((1, (1, 3)), (2, (1, 2)), (2, (2, 1)), (3, ((0,), (0,))), (3, ((1,), (1,))), (4, 1)):
            other = base[:at] + (part,) + base[at + 1:]
            self.same(merged((base, other)), ((base, other), (0, 1)))
        other = (5,) + base[1:]
        self.same(merged((base, other)), (((7,) + base[1:],), (0, 0)))

    def test_merged_keeps_the_sequence_of_the_first_ones(self):
        a, b, c = SEEN[1], SEEN[0], SEEN[0][:4] + (7,)
        court, places = merged((a, b, a, c, b, a))
        self.same(court, ((3,) + a[1:], (2,) + b[1:], c))
        self.same(places, (0, 1, 0, 2, 1, 0))

    def test_merged_by_definition(self):
        for court in made_courts(60, 1, 7, seed=5):
            doubled = court + court[::2]
            result, places = merged(doubled)
            kinds = []
            for case in doubled:
                if case[1:] not in kinds:
                    kinds.append(case[1:])
            expected = tuple((sum(case[0] for case in doubled if case[1:] == kind),) + kind for kind in kinds)
            self.same(result, expected)
            self.same(places, tuple(kinds.index(case[1:]) for case in doubled))
            whole = tuple(range(len(doubled)))
            self.assertEqual(weight_of(doubled, whole), weight_of(result, tuple(range(len(result)))))

    def test_halved(self):
        for here, case in enumerate(MIXED):
            for weight in range(1, case[0]):
                result = halved(MIXED, here, weight)
                first = MIXED[:here] + ((weight,) + case[1:],) + MIXED[here + 1:]
                self.same(result, first + ((case[0] - weight,) + case[1:],))
                self.same(merged(result)[0], merged(MIXED)[0])

    def test_halved_refusals(self):
        own = MIXED[2][0]
        wrong = {"here": wrong_cases(MIXED), "weight": support.WRONG_POSITIVES + (own, own + 1)}
        self.check_parameters(halved, {"court": MIXED, "here": 2, "weight": own - 1}, wrong)
        self.refuses("weight", halved, PAIR, 0, 1)

    def test_renamed(self):
        for court in made_courts(40, 2, 6, seed=6):
            places = list(range(len(court)))
            random.Random(len(court)).shuffle(places)
            result = renamed(court, tuple(places))
            self.same(result, tuple(court[place] for place in places))
            back = tuple(places.index(k) for k in range(len(court)))
            self.same(renamed(result, back), court)

    def test_renamed_refusals(self):
        wrong = (
            None, True, 0, "", (), (0, 1), (0, 1, 1), (0, 1, 3), (1, 2, 3), (-1, 0, 1), [0, 1, 2], (0, 1, 2, 2), (0, 1, "2"),
            (0, True, 2), (False, 1, 2), (0, 1, 2, 3), (0, 1, None), ((0,), 1, 2),
        )
        self.check_parameters(renamed, {"court": COIN, "places": (2, 0, 1)}, {"places": wrong})

    def test_turned(self):
        self.same(turned(support.STEEP), (
            (1, (0, 1), (1, 2), ((), (1,)), 0), (1, (-1, 1), (1, 1), ((), (0,)), 0),
        ))
        for court in EXAMPLES + tuple(made_courts(40)):
            result = turned(court)
            self.same(result, tuple(
                (w, quotient(-value(r)), (f[1], f[0]), (h[1], h[0]), s) for w, r, f, h, s in court
            ))
            self.same(turned(result), court)
