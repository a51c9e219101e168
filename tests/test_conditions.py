"""[19] conditions, and their consequences in [22]."""

import random

from oneistrue.conditions import both, either, holds, is_condition
from tests.support import ANYTHING, WRONG_NUMBERS, Case

COUNTS = (2, 3)
ALWAYS, NEVER = ((),), ()
ONE = (((0, True, 1),),)
GOOD = (
    ALWAYS, NEVER, ONE, ((), ()), (((0, True, 0), (1, False, 2)),), (((1, True, 2),), (), ((0, False, 1), (0, False, 1))),
)
WRONG = (
    None, True, 0, "", "-", [], [()], ((0, True, 1),), (None,), (0,), ([],), ("",), (((0, True),),), (((0, True, 1, 0),),),
    (([0, True, 1],),), ((None,),), (((0, 1, 1),),), (((0, 0, 1),),), (((0, None, 1),),), (((0, "=", 1),),),
    (((2, True, 0),),), (((-1, True, 0),),), (((None, True, 0),),), (((True, True, 0),),), (((False, True, 0),),),
    (((0, True, 2),),), (((1, True, 3),),), (((0, True, -1),),), (((0, True, True),),), (((0, True, None),),),
    (((0, False, 2),),), (((0, True, 1),), None), (((0, True, 1), None),), ((), ((1, True, 3),)), (((0, True, 1), (2, True, 0)),),
)


def all_marks(counts):
    rows = [()]
    for count in counts:
        rows = [row + (mark,) for row in rows for mark in range(count)]
    return rows


def made_condition(dice, counts):
    return tuple(
        tuple(
            (fact, dice.random() < 0.5, dice.randrange(counts[fact]))
            for fact in [dice.randrange(len(counts)) for _ in range(dice.randint(0, 3))]
        )
        for _ in range(dice.randint(0, 3))
    )


def by_definition(condition, marks):
    for alternative in condition:
        if all((marks[fact] == mark) if equal else (marks[fact] != mark) for fact, equal, mark in alternative):
            return True
    return False


class ConditionsTest(Case):
    def test_is_condition(self):
        for thing in GOOD:
            self.same(is_condition(COUNTS, thing), True)
            self.same(is_condition(counts=COUNTS, thing=thing), True)
        for thing in WRONG:
            with self.subTest(thing=thing):
                self.same(is_condition(COUNTS, thing), False)
        for thing in ANYTHING:
            self.assertIn(repr(is_condition(COUNTS, thing)), ("True", "False"))

    def test_the_count_is_that_of_the_fact(self):
        self.same(is_condition((3, 2), (((0, True, 2),),)), True)
        self.same(is_condition((3, 2), (((1, True, 2),),)), False)
        self.same(is_condition((1,), (((0, False, 0),),)), True)

    def test_without_facts(self):
        for thing, told in (((), True), (((),), True), (((), ()), True), ((((0, True, 0),),), False)):
            self.same(is_condition((), thing), told)
        self.same(holds((), (), ()), False)
        self.same(holds((), ((),), ()), True)

    def test_beyond_the_limits(self):
        self.same(is_condition(COUNTS, ((((0, True, 1),) * 20),) * 20), True)

    def test_holds(self):
        dice = random.Random(2)
        for counts in (COUNTS, (1,), (4, 1, 2)):
            for condition in (ALWAYS, NEVER) + tuple(made_condition(dice, counts) for _ in range(200)):
                for marks in all_marks(counts):
                    self.same(holds(counts, condition, marks), by_definition(condition, marks))

    def test_holds_in_a_later_alternative(self):
        condition = (((0, True, 0), (1, True, 1)), ((0, False, 0), (1, False, 2)))
        told = [holds(COUNTS, condition, marks) for marks in all_marks(COUNTS)]
        self.same(told, [False, True, False, True, True, False])

    def test_either_and_both(self):
        dice = random.Random(7)
        for _ in range(200):
            one, other = made_condition(dice, COUNTS), made_condition(dice, COUNTS)
            self.same(either(COUNTS, one, other), one + other)
            self.same(both(COUNTS, one, other), tuple(a + b for a in one for b in other))
            for marks in all_marks(COUNTS):
                first, second = holds(COUNTS, one, marks), holds(COUNTS, other, marks)
                self.same(holds(COUNTS, either(COUNTS, one, other), marks), first or second)
                self.same(holds(COUNTS, both(COUNTS, one, other), marks), first and second)

    def test_duplicates_stay(self):
        self.same(either(COUNTS, ONE, ONE), ONE + ONE)
        self.same(both(COUNTS, ONE, ONE), (((0, True, 1), (0, True, 1)),))
        self.same(both(COUNTS, ((), ()), ((), ())), ((), (), (), ()))

    def test_refusals(self):
        marks = (
            None, 0, "", (), (0,), (0, 0, 0), [0, 0], (2, 0), (0, 3), (-1, 0), (0, -1), (True, 0), (0, False), (None, 0),
            ("0", 0),
        )
        good = {"counts": COUNTS, "condition": ONE, "marks": (1, 2)}
        self.check_parameters(holds, good, {"condition": WRONG, "marks": marks})
        for function in (either, both):
            good = {"counts": COUNTS, "condition": ONE, "more": ALWAYS}
            self.check_parameters(function, good, {"condition": WRONG, "more": WRONG})
        for bad in WRONG_NUMBERS:
            self.refuses("marks", holds, (2,), (), (bad,))
