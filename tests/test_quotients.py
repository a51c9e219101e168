"""[14] quotients."""

import random
from fractions import Fraction

from oneistrue.quotients import is_less, minus, over, plus, quotient_of, raised, times, total
from tests.support import WRONG_INTEGERS, WRONG_NUMBERS, WRONG_QUOTIENTS, Case, quotient, value


def made(dice):
    top = dice.choice((0, 1, -1, dice.randint(-20, 20), dice.randint(-(10 ** 15), 10 ** 15)))
    bottom = dice.choice((1, dice.randint(1, 20), dice.randint(1, 10 ** 15)))
    return quotient(Fraction(top, bottom))


class QuotientsTest(Case):
    def test_quotient_of(self):
        for top in range(-12, 13):
            for bottom in range(-12, 13):
                if bottom != 0:
                    self.same(quotient_of(top, bottom), quotient(Fraction(top, bottom)))
        self.same(quotient_of(0, -7), (0, 1))
        self.same(quotient_of(10 ** 59, -(10 ** 58)), (-10, 1))

    def test_sums_and_products(self):
        dice = random.Random(3)
        for _ in range(2000):
            one, other = made(dice), made(dice)
            a, b = value(one), value(other)
            self.same(plus(one, other), quotient(a + b))
            self.same(minus(one, other), quotient(a - b))
            self.same(times(one, other), quotient(a * b))
            self.same(is_less(one, other), a < b)
            if b != 0:
                self.same(over(one, other), quotient(a / b))

    def test_is_less_of_equals(self):
        self.same(is_less((1, 2), (1, 2)), False)
        self.same(is_less((-1, 2), (-1, 3)), True)
        self.same(is_less((1, 3), (1, 2)), True)
        self.same(is_less((1, 2), (1, 3)), False)

    def test_raised(self):
        for one in ((0, 1), (1, 1), (-1, 1), (2, 3), (-3, 2), (10 ** 15, 7)):
            for many in list(range(8)) + [60]:
                self.same(raised(one, many), quotient(value(one) ** many))
        self.same(raised((0, 1), 0), (1, 1))
        self.same(raised((0, 1), 1), (0, 1))

    def test_total(self):
        dice = random.Random(4)
        for many in range(8):
            for _ in range(50):
                parts = tuple(made(dice) for _ in range(many))
                self.same(total(parts), quotient(sum(map(value, parts), Fraction(0))))
        self.same(total(()), (0, 1))
        self.same(total(((1, 2), (-1, 2))), (0, 1))

    def test_refusals_of_two(self):
        for function in (plus, minus, times, over, is_less):
            good = {"one": (1, 2), "other": (-3, 4)}
            self.check_parameters(function, good, {"one": WRONG_QUOTIENTS, "other": WRONG_QUOTIENTS})

    def test_over_nought(self):
        self.refuses("other", over, (1, 2), (0, 1))
        self.refuses("one", over, (2, 4), (0, 1))
        self.same(over((0, 1), (-1, 3)), (0, 1))

    def test_refusals(self):
        wrong = {"top": WRONG_INTEGERS, "bottom": WRONG_INTEGERS + (0,)}
        self.check_parameters(quotient_of, {"top": 4, "bottom": -6}, wrong)
        wrong = {"one": WRONG_QUOTIENTS, "many": WRONG_NUMBERS}
        self.check_parameters(raised, {"one": (2, 3), "many": 2}, wrong)
        lists = tuple(((1, 2), bad) for bad in WRONG_QUOTIENTS) + tuple((bad,) for bad in WRONG_QUOTIENTS)
        wrong = {"quotients": lists + (None, True, 0, "", [], [(1, 2)], (1, 2))}
        self.check_parameters(total, {"quotients": ((1, 2), (3, 1))}, wrong)
