"""[13] kinds."""

from oneistrue.kinds import is_holding, is_integer, is_number, is_quotient, is_set, is_table
from tests.support import ANYTHING, WRONG_INTEGERS, WRONG_NUMBERS, WRONG_QUOTIENTS, Case


class KindsTest(Case):
    def test_integers(self):
        for thing in (0, 1, -1, 10 ** 59, -(10 ** 59)):
            self.same(is_integer(thing), True)
        for thing in WRONG_INTEGERS:
            self.same(is_integer(thing), False)

    def test_numbers(self):
        for thing in (0, 1, 10 ** 59):
            self.same(is_number(thing), True)
        for thing in WRONG_NUMBERS:
            self.same(is_number(thing), False)

    def test_quotients(self):
        for thing in ((0, 1), (1, 1), (-1, 1), (1, 2), (-3, 2), (7, 10 ** 30), (10 ** 30, 7), (1, 10 ** 59)):
            self.same(is_quotient(thing), True)
        for thing in WRONG_QUOTIENTS + ((6, 4), (-6, 4), (0, 3), (10 ** 30, 10), (1.0, 2)):
            self.same(is_quotient(thing), False)

    def test_sets(self):
        for size, thing in ((1, ()), (1, (0,)), (3, (0, 2)), (3, (0, 1, 2)), (10, (9,)), (2, (1,))):
            self.same(is_set(size, thing), True)
        wrong = (
            None, True, 0, "", [], [0], (3,), (0, 3), (-1,), (-1, 0), (1, 0), (1, 1), (True,), (False,), (0, True),
            ("0",), ((0,),), (None,), (0, (1,)), "012",
        )
        for thing in wrong:
            self.same(is_set(3, thing), False)
        self.same(is_set(1, (1,)), False)

    def test_tables(self):
        half = (1, 2)
        for size, thing in ((1, (half,)), (2, (half, half)), (3, ((0, 1), (-1, 1), half))):
            self.same(is_table(size, thing), True)
        for size, thing in ((1, ()), (2, (half,)), (1, (half, half)), (1, half), (2, half), (1, [half]), (1, None), (1, "")):
            self.same(is_table(size, thing), False)
        for bad in WRONG_QUOTIENTS:
            self.same(is_table(2, (half, bad)), False)
            self.same(is_table(2, (bad, half)), False)

    def test_holdings(self):
        for many, thing in ((0, ()), (1, (0,)), (2, (5, 0)), (3, (1, 1, 1)), (1, (10 ** 30,))):
            self.same(is_holding(many, thing), True)
        wrong = (None, True, 0, "", (), (0,), (0, 0, 0), [0, 0], (0, -1), (-1, 0), (0, True), (False, 0), (0, None), (0, "1"))
        for thing in wrong:
            self.same(is_holding(2, thing), False)
        self.same(is_holding(0, []), False)
        self.same(is_holding(0, (0,)), False)

    def test_true_is_no_one_deep_within(self):
        self.same(is_table(2, ((0, 1), (1, True))), False)
        self.same(is_table(2, ((False, 1), (1, 1))), False)
        self.same(is_quotient((True, True)), False)

    def test_a_number_of_grades_that_is_none(self):
        for bad in WRONG_NUMBERS:
            for thing in ((), (0,), None, "x"):
                self.refuses("many", is_holding, bad, thing)
                self.refuses("many", is_holding, many=bad, thing=thing)

    def test_any_thing_is_told(self):
        for thing in ANYTHING:
            for told in (
                is_integer(thing), is_number(thing), is_quotient(thing), is_set(2, thing), is_table(2, thing),
                is_holding(2, thing), is_integer(thing=thing), is_number(thing=thing), is_quotient(thing=thing),
                is_set(size=2, thing=thing), is_table(size=2, thing=thing), is_holding(many=2, thing=thing),
            ):
                self.assertIn(repr(told), ("True", "False"))

    def test_beyond_the_limits(self):
        self.same(is_set(1000, tuple(range(1000))), True)
        self.same(is_table(300, ((1, 10 ** 40),) * 300), True)
        self.same(is_holding(300, (4,) * 300), True)
