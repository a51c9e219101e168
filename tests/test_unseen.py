"""[63] unseen."""

import random
from fractions import Fraction
from itertools import product

from oneistrue.unseen import unseen_worth
from tests.support import ANYTHING, PAIR, WRONG_QUOTIENTS, Case, made_right, quotient, value


def worth_of(rows):
    """What the document tells, by its words."""
    table = [[value(entry) for entry in row] for row in rows]
    for at, row in enumerate(table):
        for spot, entry in enumerate(row):
            if entry == min(row) and entry == max(other[spot] for other in table):
                return entry, Fraction(at == 0), Fraction(spot == 0)
    (a, b), (c, d) = table
    e = a + d - b - c
    return (a * d - b * c) / e, (d - c) / e, (d - b) / e


class UnseenTest(Case):
    def check(self, rows):
        worth, first, second = worth_of(rows)
        self.same(unseen_worth(rows), (quotient(worth), quotient(first), quotient(second)))
        self.same(unseen_worth(rows=rows), (quotient(worth), quotient(first), quotient(second)))
        # Neither side does better, whatever the other one does.
        table = [[value(entry) for entry in row] for row in rows]
        shares = [first, 1 - first][:len(table)]
        others = [second, 1 - second][:len(table[0])]
        self.assertTrue(0 <= first <= 1 and 0 <= second <= 1)
        self.assertEqual(worth, min(sum(s * row[k] for s, row in zip(shares, table)) for k in range(len(others))))
        self.assertEqual(worth, max(sum(s * entry for s, entry in zip(others, row)) for row in table))

    def test_all_small_ones(self):
        values = ((0, 1), (1, 1), (1, 2), (-2, 3))
        for many in (1, 2):
            for row in product(values, repeat=many):
                self.check((row,))
            for entries in product(values, repeat=2 * many):
                self.check((entries[:many], entries[many:]))

    def test_by_the_dice(self):
        dice = random.Random(181)
        mixed = 0
        for _ in range(400):
            rows = tuple((made_right(dice), made_right(dice)) for _ in range(2))
            self.check(rows)
            mixed += unseen_worth(rows)[1] not in ((0, 1), (1, 1))
        self.assertGreater(mixed, 50)

    def test_the_first_saddle_row_by_row(self):
        self.same(unseen_worth((((1, 1), (1, 1)), ((1, 1), (1, 1)))), ((1, 1), (1, 1), (1, 1)))
        self.same(unseen_worth((((2, 1), (1, 1)), ((0, 1), (1, 1)))), ((1, 1), (1, 1), (0, 1)))
        self.same(unseen_worth((((0, 1), (5, 1)), ((1, 1), (1, 1)))), ((1, 1), (0, 1), (1, 1)))
        self.same(unseen_worth((((0, 1),), ((0, 1),))), ((0, 1), (1, 1), (1, 1)))
        self.same(unseen_worth((((3, 1), (2, 1)),)), ((2, 1), (1, 1), (0, 1)))
        self.same(unseen_worth((((3, 1),), ((4, 1),))), ((4, 1), (0, 1), (1, 1)))
        # Compared by value, not as pairs: 2 / 5 is below 1 / 2.
        self.same(unseen_worth((((1, 2), (2, 5)),)), ((2, 5), (1, 1), (0, 1)))

    def test_great_ones(self):
        great = 10 ** 15
        self.check((((great, great - 1), (1, great)), ((-great, 3), (great - 1, 1))))

    def test_refusals(self):
        one = ((1, 2), (1, 3))
        wrong = [
            (), ((),), ((), ()), (one, one, one), (one + one,), (one, one[:1]), (one[:1], one), ((one[0],) * 3,), [one], [one, one],
            (list(one),), (one, list(one)), (list(one), one), one, (one, None), (None, one), (one, ()), ((), one), ("ab",), "ab", {},
        ]
        wrong += [((bad, (1, 2)),) for bad in WRONG_QUOTIENTS] + [(one, ((1, 2), bad)) for bad in WRONG_QUOTIENTS]
        wrong += [thing for thing in ANYTHING + (PAIR,)]
        for bad in wrong:
            self.refuses("rows", unseen_worth, bad)
            self.refuses("rows", unseen_worth, rows=bad)
        unseen_worth((one,))
