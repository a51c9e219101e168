"""[32] Order."""

from oneistrue.classes import classes_of, ties_of
from oneistrue.courtclasses import Court
from oneistrue.hiding import order_of, over_of, under_of
from oneistrue.lots import lower_of, upper_of
from oneistrue.orderclasses import Order
from oneistrue.twins import claimant_twin, defendant_twin
from tests import support
from tests.support import (
    ANYTHING, COIN, COPY, EXAMPLES, MIXED, PAIR, SEEN, WRONG_COURTS, Case, all_lots, made_courts, wrong_cases, wrong_lots,
)

COURTS = EXAMPLES + tuple(made_courts(60, 1, 6, seed=31))


class OrderTest(Case):
    def test_no_court(self):
        for bad in WRONG_COURTS + (Court(PAIR), Order(PAIR)):
            self.refuses("court", Order, bad)
            self.refuses("court", Order, court=bad)

    def test_properties(self):
        for court in COURTS:
            one = Order(court)
            self.same(one.inner, court)
            self.same(one.pairs, order_of(court))
            self.same(one.classes, classes_of(court))
            self.same(one.ties, ties_of(court))
            self.same(len(one), len(order_of(court)))
            self.same(Order(court=court) == one, True)

    def test_properties_are_not_assigned(self):
        for name in ("inner", "pairs", "classes", "ties"):
            self.assertIsInstance(vars(Order)[name], property)
            with self.assertRaises(AttributeError):
                setattr(Order(PAIR), name, 0)

    def test_in(self):
        for court in COURTS:
            one = Order(court)
            for d in range(len(court)):
                for c in range(len(court)):
                    self.same((d, c) in one, (d, c) in support.order(court))
                    self.same([d, c] in one, False)
        for thing in ANYTHING:
            self.same(thing in Order(COIN), repr(thing) in ("(0, 2)", "(1, 2)"))
        for thing in ((0, 1, 0), (0,), ((0, 1),), "01", (0, True), (False, 1), (False, True), [0, 1]):
            self.same(thing in Order(PAIR), False)
            self.same(thing not in Order(PAIR), True)
        self.same((0, 1) in Order(PAIR), True)

    def test_equality(self):
        for court in COURTS:
            self.same(Order(court) == Order(claimant_twin(court)), True)
            self.same(Order(court) != Order(defendant_twin(court)), False)
        self.same(Order(COPY) == Order(SEEN), True)
        self.same(Order(PAIR) == Order(PAIR[::-1]), False)
        self.same(Order(PAIR) != Order(SEEN), True)
        # As many pairs, none, but not as many cases.
        self.same(Order(SEEN) == Order(SEEN[:1]), False)
        self.same(Order(SEEN) != Order(SEEN[:1]), True)
        for thing in ANYTHING + (PAIR, order_of(PAIR), Court(PAIR)):
            self.same(Order(PAIR) == thing, False)
            self.same(thing == Order(PAIR), False)
            self.same(Order(PAIR) != thing, True)

    def test_lies_in(self):
        for court, other in zip(COURTS, COURTS[1:] + COURTS[:1]):
            as_many = len(court) == len(other)
            told = as_many and set(order_of(court)) <= set(order_of(other))
            self.same(Order(court).lies_in(Order(other)), told)
        self.same(Order(SEEN).lies_in(Order(PAIR)), True)
        self.same(Order(PAIR).lies_in(Order(SEEN)), False)
        self.same(Order(PAIR).lies_in(other=Order(PAIR)), True)
        self.same(Order(PAIR).lies_in(Order(PAIR[::-1])), False)
        self.same(Order(PAIR).lies_in(Order(PAIR[:1] * 2)), True)
        self.same(Order(PAIR[:1]).lies_in(Order(PAIR)), False)
        self.same(Order(SEEN).lies_in(Order(SEEN * 2)), False)
        for bad in ANYTHING + (PAIR, ((0, 1),), Court(PAIR)):
            self.refuses("other", Order(PAIR).lies_in, bad)
            self.refuses("other", Order(PAIR).lies_in, other=bad)

    def test_methods(self):
        for court in COURTS:
            one = Order(court)
            for here in range(len(court)):
                self.same(one.under(here), under_of(court, here))
                self.same(one.over(here), over_of(court, here))
                self.same(one.under(here=here), under_of(court, here))
                self.same(one.over(there=here), over_of(court, here))
            for lot in all_lots(len(court))[:20]:
                self.same(one.lifted(lot), upper_of(court, lot))
                self.same(one.sunk(lot), lower_of(court, lot))
                self.same(one.lifted(lot=lot), upper_of(court, lot))
                self.same(one.sunk(lot=lot), lower_of(court, lot))

    def test_refusals(self):
        one = Order(MIXED)
        for bad in wrong_cases(MIXED):
            self.refuses("here", one.under, bad)
            self.refuses("here", one.under, here=bad)
            self.refuses("there", one.over, bad)
            self.refuses("there", one.over, there=bad)
        for bad in wrong_lots(MIXED):
            for method in (one.lifted, one.sunk):
                self.refuses("lot", method, bad)
                self.refuses("lot", method, lot=bad)
