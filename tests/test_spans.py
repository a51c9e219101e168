"""[79] spans, [80] poolmoves, [81] edits, and [82] as far as it speaks of them; (G10)."""

import random
from fractions import Fraction

from oneistrue.best import best_table
from oneistrue.changes import with_right
from oneistrue.courtclasses import Court
from oneistrue.dealing import dealing_of
from oneistrue.edits import first_break, stays
from oneistrue.givings import with_new
from oneistrue.poolmoves import pool_table, same_pools
from oneistrue.pools import pools_of
from oneistrue.spans import in_span, right_span, weight_span
from oneistrue.twins import claimant_twin, defendant_twin
from tests import support
from tests.support import (
    ANYTHING, CHAIN, COIN, COPY, EXAMPLES, FOUR, HIGH, MIXED, PAIR, SEEN, STEEP, WRONG_COURTS, WRONG_QUOTIENTS, Case, all_alike,
    altered, chain, components, crowded_courts, made_courts, quotient, unlike, value, wrong_cases,
)

FAMILIES = (all_alike(41), unlike(41), chain(41), all_alike(42, 5), chain(42, 5), chain(43, 3))
TWO_CLASSES = tuple(case[:3] + (((1 - at // 4,), ()), 0) for at, case in enumerate(all_alike(44)))
COURTS = EXAMPLES + (FOUR, HIGH, TWO_CLASSES) + FAMILIES + tuple(made_courts(45, 1, 8, seed=291))
COURTS = COURTS + tuple(crowded_courts(45, 2, 8, seed=292)) + tuple(made_courts(4, 8, 8, seed=293))
STAIR = CHAIN
FAR = (Fraction(10 ** 9), Fraction(-10 ** 9))
NEAR = Fraction(1, 10 ** 7)


def pools(court):
    """The pools by [7], from the best table."""
    best = best_table(court)
    return components(len(court), [(d, c) for d, c in support.order(court) if best[d] == best[c]])


def with_weight(court, here, weight):
    """The court in which the case has this weight, a Fraction: all weights times its bottom."""
    return tuple(
        ((weight.numerator if at == here else case[0] * weight.denominator),) + case[1:] for at, case in enumerate(court)
    )


def around(span, now):
    """Values at each end, just inside and outside, far away, and between."""
    found = list(FAR) + [now, now + NEAR, now - NEAR, now + 1, now - 1]
    for end in span:
        if end is not None:
            at = value(end[0])
            found += [at, at + NEAR, at - NEAR, at + 1, at - 1, (at + now) / 2, 2 * at - now]
    return sorted(set(found))


def lies(span, number):
    """By the words of [10]."""
    lower, upper = span
    if lower is not None and not (value(lower[0]) < number or (lower[1] and value(lower[0]) == number)):
        return False
    return upper is None or number < value(upper[0]) or (upper[1] and value(upper[0]) == number)


class SpansTest(Case):
    def check_form(self, span):
        self.assertEqual((type(span), len(span)), (tuple, 2))
        for end in span:
            if end is not None:
                self.assertEqual((type(end), len(end), type(end[1])), (tuple, 2, bool))
                self.same(end[0], quotient(value(end[0])))

    def test_rights(self):
        told = set()
        for court in COURTS:
            own = pools(court)
            for here, case in enumerate(court):
                span = right_span(court, here)
                self.same(right_span(court=court, here=here), span)
                self.check_form(span)
                now = value(case[1])
                self.same(in_span(span, case[1]), True)
                for number in around(span, now):
                    inside = in_span(span, quotient(number))
                    self.same(inside, lies(span, number))
                    other = with_right(court, here, quotient(number))
                    with self.subTest(court=court, here=here, number=number):
                        self.assertEqual(pools(other) == own, inside)
                    told.add((inside, len(own)))
                told |= {(at, end if end is None else end[1]) for at, end in enumerate(span)}
        self.assertTrue({(at, end) for at in (0, 1) for end in (None, True, False)} <= told)

    def test_weights(self):
        told = set()
        for court in COURTS:
            own = pools(court)
            for here, case in enumerate(court):
                span = weight_span(court, here)
                self.same(weight_span(court=court, here=here), span)
                self.check_form(span)
                self.assertIsNotNone(span[0])
                self.assertGreaterEqual(value(span[0][0]), 0)
                self.same(in_span(span, (case[0], 1)), True)
                self.same(in_span(span, (0, 1)), False)
                for number in around(span, Fraction(case[0])) + [NEAR / 10 ** 6]:
                    if number > 0:
                        inside = in_span(span, quotient(number))
                        other = with_weight(court, here, number)
                        with self.subTest(court=court, here=here, number=number):
                            self.assertEqual(pools(other) == own, inside)
                told.add((0, span[0] == ((0, 1), False), span[0][1]))
                told.add((1, None if span[1] is None else span[1][1]))
        self.assertEqual(told, {
            (0, True, False), (0, False, True), (0, False, False), (1, None), (1, True), (1, False),
        })

    def test_by_hand(self):
        self.same(right_span(COIN, 0), (((-3, 1), True), ((3, 2), True)))
        self.same(right_span(COIN, 2), (((0, 1), True), None))
        self.same(right_span(STAIR, 2), (None, ((3, 2), False)))
        self.same(weight_span(STAIR, 1), (((1, 2), False), None))
        self.same(weight_span(STAIR, 2), (((0, 1), False), None))
        self.same(right_span(SEEN, 0), (None, None))
        self.same(right_span(COPY, 1), (None, None))
        self.same(weight_span(SEEN, 1), (((0, 1), False), None))
        # The pool of one case that hides under another one.
        calm = ((1, (2, 1), (1, 1), ((1,), ()), 0), (1, (1, 1), (1, 1), ((0,), ()), 0))
        self.same(right_span(calm, 0), (((1, 1), False), None))
        self.same(right_span(calm, 1), (None, ((2, 1), False)))
        self.same(weight_span(calm, 0), (((0, 1), False), None))
        # The factor is that of the side on which the right award then is.
        tower = ((1, (1, 1), (1, 1), ((2,), ()), 0),) + ((1, (0, 1), (1, 1), ((1,), ()), 0), (1, (1, 1), (2, 3), ((0,), ()), 0))
        self.same(best_table(tower), ((1, 1), (3, 4), (3, 4)))
        self.same(right_span(tower, 2), (((0, 1), True), ((4, 3), False)))
        self.same(right_span(tower, 1), (None, ((1, 1), False)))
        # Cases that are alike stay one pool, whatever their right awards.
        self.same(right_span(FOUR, 0), (None, None))
        self.same(weight_span(FOUR, 0), (((0, 1), False), None))
        # The factor changes where the level comes to the right award.
        self.same(right_span(STEEP, 0), (None, ((1, 1), True)))

    def test_in_span(self):
        dice = random.Random(294)
        told = {True: 0, False: 0}
        for _ in range(600):
            ends = [None if dice.random() < 0.2 else (support.made_right(dice), dice.random() < 0.5) for _ in range(2)]
            for award in [end[0] for end in ends if end] + [support.made_right(dice)]:
                result = in_span(tuple(ends), award)
                self.same(result, lies(ends, value(award)))
                self.same(in_span(award=award, span=tuple(ends)), result)
                told[result] += 1
        self.assertGreater(min(told.values()), 200)
        # Nothing lies in these.
        for span in ((((1, 1), False), ((1, 1), True)), (((1, 1), True), ((1, 1), False)), (((2, 1), True), ((1, 1), True))):
            for award in ((1, 1), (2, 1), (3, 2), (0, 1), (10 ** 15, 1)):
                self.same(in_span(span, award), False)
        self.same(in_span((((1, 1), True), ((1, 1), True)), (1, 1)), True)
        self.same(in_span((((2, 5), True), ((1, 2), True)), (3, 7)), True)

    def test_refusals(self):
        good = ((0, 1), True)
        spans = [None, True, 0, "", (), (None,), (None, None, None), [None, None], (good,), good, (good, list(good)), "ab"]
        for bad in WRONG_QUOTIENTS:
            spans += [((bad, True), None), (None, (bad, False)), (good, (bad, False))]
        for bad in (0, 1, "True", (), ((0, 1), 1), ((0, 1), 0), ((0, 1), None), ((0, 1),), ((0, 1), True, True), (True, (0, 1))):
            spans += [(bad, None), (None, bad), (good, bad)]
        self.check_parameters(in_span, {"span": (good, None), "award": (0, 1)}, {"span": spans, "award": WRONG_QUOTIENTS})
        for court in (PAIR, MIXED):
            for function in (right_span, weight_span):
                self.check_parameters(function, {"court": court, "here": 0}, {"here": wrong_cases(court)})


class PoolMovesTest(Case):
    def test_same_pools(self):
        told = {True: 0, False: 0}
        for size in (1, 2, 3, 4, 5, 8):
            alike = [court for court in COURTS if len(court) == size]
            for court in alike:
                for other in alike[:25]:
                    expected = pools(court) == pools(other)
                    self.same(same_pools(court, other), expected)
                    told[expected] += 1
        self.same(same_pools(other=PAIR, court=PAIR), True)
        self.same(same_pools(PAIR, COPY), False)
        self.assertGreater(min(told.values()), 100)

    def test_pool_table(self):
        for court in COURTS:
            self.same(pool_table(court, pools_of(court)), best_table(court))
            self.same(pool_table(lots=pools_of(court), court=court), best_table(court))
            for lots in (tuple((here,) for here in range(len(court))), (tuple(range(len(court))),), some_lots(court)):
                expected = {here: quotient(support.level(court, lot)) for lot in lots for here in lot}
                self.same(pool_table(court, lots), tuple(expected[here] for here in range(len(court))))
        self.same(pool_table(STAIR, ((0, 1), (2,))), ((3, 2), (3, 2), (1, 1)))
        self.same(pool_table(STAIR, ((0, 2), (1,))), ((1, 2), (3, 1), (1, 2)))

    def test_refusals(self):
        others = WRONG_COURTS + (COIN, PAIR[:1], PAIR + PAIR, Court(PAIR), STAIR)
        self.check_parameters(same_pools, {"court": PAIR, "other": SEEN}, {"other": others})
        lots = (
            None, True, 0, "", (), [], [(0,), (1,), (2,)], ((0,), (1,)), ((0,), (1,), (2,), (3,)), ((0, 1),), ((0, 1), (1, 2)),
            ((), (0, 1, 2)), ((0, 1, 2), ()), ((0,), (2,), (1,)), ((2,), (0, 1)), ((1, 0), (2,)), ((0, 1), [2]), ((False, 1), (2,)),
            ((0, True), (2,)), ((0, 1), 2), (0, 1, 2), ((0,), (0,), (1,), (2,)), ((0, 0), (1,), (2,)), ((-1,), (0,), (1,), (2,)),
            ("01", "2"), ((0, 1), (None,)), ((0, 1, 3), (2,)), (((0,), (1,)), (2,)),
        )
        self.check_parameters(pool_table, {"court": STAIR, "lots": ((0, 1), (2,))}, {"lots": lots})

    def test_where_the_pools_stay(self):
        """[82]: pool_table of the same pools is the best table of the court with the other right award."""
        for court in COURTS[::3]:
            for here, case in enumerate(court):
                for number in around(right_span(court, here), value(case[1])):
                    other = with_right(court, here, quotient(number))
                    if in_span(right_span(court, here), quotient(number)):
                        self.same(same_pools(court, other), True)
                        self.same(pool_table(other, pools_of(court)), best_table(other))


def some_lots(court):
    """The cases with an even and with an odd position."""
    cases = range(len(court))
    return tuple(lot for lot in (tuple(cases[::2]), tuple(cases[1::2])) if lot)


def expected_break(court, dealing, other):
    """By the words of [81]."""
    if len(other) != len(court):
        return ("size",)
    awards = [value(award) for award in best_table(court)]
    pairs = support.order(other)
    falls = [("fall", d, c) for d, c in pairs if awards[d] < awards[c]]
    cuts = [("dispute", d, c) for d, c, _ in dealing if (d, c) not in pairs]
    moves = [("pull", t) for t, (one, two) in enumerate(zip(support.pulls(court, awards), support.pulls(other, awards))) if one != two]
    return (falls + cuts + moves + [None])[0]


def others_for(dice, court):
    """Courts near this one: one or two values changed, whole holdings new, twins, other sizes."""
    found = [court, claimant_twin(court), defendant_twin(court), court[1:] or court * 2, court + court[:1]]
    for _ in range(8):
        other = list(court)
        for _ in range(dice.choice((1, 1, 2))):
            here = dice.randrange(len(court))
            weight, right, factors, holdings, sight = other[here]
            part = dice.randrange(5)
            weight = dice.randint(1, 9) if part == 0 else weight
            right = support.made_right(dice) if part == 1 else right
            factors = (dice.randint(1, 3), dice.randint(1, 3)) if part == 2 else factors
            holdings = dice.choice(court)[3] if part == 3 else holdings
            sight = dice.randint(0, 1) if part == 4 else sight
            other[here] = (weight, right, factors, holdings, sight)
        found.append(tuple(other))
    found.append(with_new(court, dice.randint(0, 1), tuple(dice.randint(0, 1) for _ in court)))
    return found


class EditsTest(Case):
    def test_by_definition(self):
        dice = random.Random(295)
        told = set()
        for court in COURTS:
            for dealing in {dealing_of(court)} | set(support.dealings_of(court, best_table(court))[:2] if len(court) < 6 else []):
                for other in others_for(dice, court):
                    expected = expected_break(court, dealing, other)
                    self.same(first_break(court, dealing, other), expected)
                    self.same(first_break(other=other, dealing=dealing, court=court), expected)
                    self.same(stays(court, dealing, other), expected is None)
                    self.same(stays(other=other, dealing=dealing, court=court), expected is None)
                    self.check_consequence(court, dealing, other, expected is None)
                    told.add(expected)
        self.assertTrue({None, ("size",)} <= told)
        for word in ("fall", "dispute", "pull"):
            # At the first place, and at many others.
            places = {one[1] for one in told if one and one[0] == word}
            self.assertTrue({0, 1, 2, 3} <= places, (word, places))

    def check_consequence(self, court, dealing, other, expected):
        """[82], the last one: it stays exactly if best table and dealing are those of the other court, too."""
        same = len(other) == len(court) and best_table(other) == best_table(court)
        self.assertEqual(same and support.is_dealing(other, best_table(other), dealing), expected)

    def test_which_of_two(self):
        paid = ((0, 1, (1, 2)),)
        self.same(first_break(PAIR, paid, COPY), ("dispute", 0, 1))
        self.same(first_break(PAIR, paid, COIN), ("size",))
        self.same(stays(PAIR, paid, PAIR), True)
        self.same(first_break(SEEN, (), (SEEN[0], SEEN[0])), ("fall", 0, 1))
        # Falling ahead of a dispute that is no pair, this one ahead of another pull.
        table = best_table(STAIR)
        self.same(table, ((3, 2), (3, 2), (1, 1)))
        dealing = dealing_of(STAIR)
        turned_round = tuple(case[:3] + (((at,), ()), 0) for at, case in enumerate(STAIR))
        self.same(first_break(STAIR, dealing, turned_round), ("fall", 2, 0))
        apart = tuple((2,) + case[1:4] + (at,) for at, case in enumerate(STAIR))
        self.same(first_break(STAIR, dealing, apart), ("dispute", 0, 1))
        heavy = tuple((2,) + case[1:] for case in STAIR)
        self.same(first_break(STAIR, dealing, heavy), ("pull", 0))
        self.same(first_break(STAIR, dealing, STAIR[:2] + ((9,) + STAIR[2][1:],)), None)
        self.same(first_break(STAIR, dealing, STAIR[:2] + (with_right(STAIR, 2, (5, 4))[2],)), ("pull", 2))
        self.same(first_break(STAIR, dealing, STAIR[:1] + ((2,) + STAIR[1][1:],) + STAIR[2:]), ("pull", 1))
        self.same(first_break(COIN, dealing_of(COIN), with_new(COIN, 1, (0, 1, 0))), ("dispute", 1, 2))

    def test_refusals(self):
        for court in (PAIR, COIN, SEEN):
            dealing = dealing_of(court)
            good = {"court": court, "dealing": dealing, "other": PAIR}
            wrong = {"dealing": altered(dealing), "other": WRONG_COURTS + (Court(PAIR),)}
            self.check_parameters(first_break, good, wrong)
            self.check_parameters(stays, good, wrong)
        for thing in ANYTHING:
            if thing not in (PAIR, COIN):
                self.refuses("other", stays, PAIR, ((0, 1, (1, 2)),), thing)
