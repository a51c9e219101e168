"""[25] classes."""

import random
from itertools import combinations

from oneistrue.classes import classes_of, closed_pairs, is_order, ties_of
from oneistrue.hiding import order_of
from tests import support
from tests.support import ANYTHING, CHAIN, COIN, EXAMPLES, PAIR, SEEN, Case, components, made_courts

COURTS = EXAMPLES + tuple(made_courts(150, 1, 8, seed=11))
ALL_PAIRS = tuple((a, b) for a in range(3) for b in range(3) if a != b)
WRONG_PAIRS = (
    None, True, 0, "", "01", [], [(0, 1)], ((0, 0),), ((2, 2),), ((0, 3),), ((3, 0),), ((-1, 0),), ((0, -1),), ((True, 0),),
    ((0, True),), ((False, 1),), ((0, 1), (0, 1)), ((1, 0), (0, 1)), ((0, 1, 2),), ((0,),), ([0, 1],), (0, 1), ((0, "1"),),
    ((0, 1), None), (None, (0, 1)), ((0, 1), (1, (2,))), ("01",), ((0, 2), (0, 1)),
)


def reached(size, pairs):
    """The closure by walking: from each number all that pairs lead to."""
    found = []
    for start in range(size):
        seen = {b for a, b in pairs if a == start}
        while True:
            more = seen | {b for a, b in pairs if a in seen}
            if more == seen:
                break
            seen = more
        found += [(start, b) for b in sorted(seen) if b != start]
    return tuple(found)


def classes(court):
    n = range(len(court))
    both = [(a, b) for a in n for b in n if support.is_under(court, a, b) and support.is_under(court, b, a)]
    return components(len(court), both)


def ties(court):
    firsts = [lot[0] for lot in classes(court)]
    found = []
    for d in firsts:
        for c in firsts:
            between = [
                e for e in firsts if e not in (d, c) and support.is_under(court, d, e) and support.is_under(court, e, c)
            ]
            if d != c and support.is_under(court, d, c) and not between:
                found.append((d, c))
    return tuple(found)


class ClassesTest(Case):
    def test_by_definition(self):
        for court in COURTS:
            self.same(classes_of(court), classes(court))
            self.same(ties_of(court), ties(court))

    def test_courts_with_classes(self):
        self.assertTrue(any(len(lot) > 1 for court in COURTS for lot in classes(court)))
        self.same(classes_of(PAIR * 2), ((0, 2), (1, 3)))
        self.same(ties_of(PAIR * 2), ((0, 1),))
        self.same(ties_of((PAIR * 2)[::-1]), ((1, 0),))
        self.same(classes_of((PAIR[1], PAIR[0], PAIR[1])), ((0, 2), (1,)))
        self.same(ties_of((PAIR[1], PAIR[0], PAIR[1])), ((1, 0),))
        self.same(classes_of(SEEN * 2), ((0, 2), (1, 3)))

    def test_ties_of_chains(self):
        self.same(ties_of(CHAIN), ((0, 1), (1, 2)))
        self.same(ties_of((CHAIN[0], CHAIN[2], CHAIN[0], CHAIN[1], CHAIN[2])), ((0, 3), (3, 1)))
        eight = tuple((1, (0, 1), (1, 1), ((), (grade,)), 0) for grade in (3, 2, 1, 0, 4, 5, 6, 7))
        self.same(ties_of(eight), tuple(sorted([(3, 2), (2, 1), (1, 0), (0, 4), (4, 5), (5, 6), (6, 7)])))

    def test_order_from_ties_and_classes(self):
        for court in COURTS:
            inside = {(a, b) for lot in classes_of(court) for a in lot for b in lot if a != b}
            pairs = tuple(sorted(inside | set(ties_of(court))))
            self.same(closed_pairs(len(court), pairs), order_of(court))
            self.same(is_order(len(court), order_of(court)), True)


class PairsTest(Case):
    def test_closed_pairs_of_three(self):
        for many in range(7):
            for pairs in combinations(ALL_PAIRS, many):
                closed = reached(3, pairs)
                self.same(closed_pairs(3, pairs), closed)
                self.same(is_order(3, pairs), closed == pairs)
                self.same(is_order(3, closed), True)

    def test_closed_pairs_of_ten(self):
        dice = random.Random(5)
        for _ in range(100):
            size = dice.randint(1, 10)
            every = [(a, b) for a in range(size) for b in range(size) if a != b]
            pairs = tuple(sorted(dice.sample(every, min(len(every), dice.randint(0, 9)))))
            self.same(closed_pairs(size, pairs), reached(size, pairs))
        ring = tuple(sorted((a, (a + 1) % 10) for a in range(10)))
        self.same(len(closed_pairs(10, ring)), 90)

    def test_long_ways_either_way_round(self):
        up = tuple((a, a + 1) for a in range(9))
        down = tuple((a + 1, a) for a in range(9))
        self.same(closed_pairs(10, up), tuple((a, b) for a in range(10) for b in range(a + 1, 10)))
        self.same(closed_pairs(10, down), tuple((a, b) for a in range(10) for b in range(a)))

    def test_refusals(self):
        self.check_parameters(closed_pairs, {"size": 3, "pairs": ((0, 1), (2, 0))}, {"pairs": WRONG_PAIRS})
        self.same(closed_pairs(1, ()), ())
        self.refuses("pairs", closed_pairs, 1, ((0, 1),))

    def test_is_order(self):
        for thing in WRONG_PAIRS:
            with self.subTest(thing=thing):
                self.same(is_order(3, thing), False)
                self.same(is_order(size=3, thing=thing), False)
        for thing in ANYTHING:
            self.assertIn(repr(is_order(3, thing)), ("True", "False"))
        self.same(is_order(1, ()), True)
        self.same(is_order(2, ((0, 1), (1, 0))), True)
        self.same(is_order(2, ((0, 1), (0, 2), (1, 2))), False)
        self.same(is_order(3, order_of(COIN)), True)
