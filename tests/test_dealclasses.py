"""[52] Deal."""

from oneistrue.best import best_table
from oneistrue.courtclasses import Court
from oneistrue.dealclasses import Deal
from oneistrue.dealing import dealing_of
from oneistrue.forests import ring_of
from oneistrue.mixes import mixed
from oneistrue.orderclasses import Order
from oneistrue.prices import dispute_wrongs
from oneistrue.tableclasses import Table
from tests import support
from tests.support import (
    ANYTHING, COIN, COPY, EXAMPLES, FOUR, HIGH, MIXED, PAIR, ROUND, SEEN, WRONG_COURTS, Case, altered, crowded_courts,
    made_courts, value, wrong_cases,
)

COURTS = EXAMPLES + (FOUR, HIGH) + tuple(made_courts(30, 1, 6, seed=151)) + tuple(crowded_courts(20, 2, 5, seed=152))
DEALT = ((0, 1, (1, 2)),)
ACROSS = ((0, 3, (1, 2)), (1, 2, (1, 2)))
STRAIGHT = ((0, 2, (1, 2)), (1, 3, (1, 2)))


def deals():
    """Pairs of a court and a dealing."""
    return [(court, dealing) for court in COURTS for dealing in support.dealings_of(court, best_table(court))]


class DealTest(Case):
    def test_no_court_or_no_dealing(self):
        for bad in WRONG_COURTS + (Court(PAIR), Deal(PAIR, DEALT)):
            for dealing in (DEALT, None):
                self.refuses("court", Deal, bad, dealing)
                self.refuses("court", Deal, dealing=dealing, court=bad)
        for court, dealing in ((PAIR, DEALT), (FOUR, ROUND), (SEEN, ())):
            for bad in altered(dealing) + (Deal(PAIR, DEALT),):
                self.refuses("dealing", Deal, court, bad)
                self.refuses("dealing", Deal, court=court, dealing=bad)

    def test_properties(self):
        for court, dealing in deals():
            one = Deal(court, dealing)
            self.same(one.inner, (court, dealing))
            self.same(one.disputes, tuple(triple[:2] for triple in dealing))
            self.same(one.wrongs, dispute_wrongs(court, dealing))
            self.same(len(one), len(dealing))
            self.same(list(one), list(dealing))
            self.same(tuple(one), dealing)
            self.same(Deal(court=court, dealing=dealing) == one, True)

    def test_properties_are_not_assigned(self):
        for name in ("inner", "disputes", "wrongs"):
            self.assertIsInstance(vars(Deal)[name], property)
            with self.assertRaises(AttributeError):
                setattr(Deal(PAIR, DEALT), name, 0)

    def test_in(self):
        for court, dealing in deals():
            one, pairs = Deal(court, dealing), [triple[:2] for triple in dealing]
            for d in range(len(court)):
                for c in range(len(court)):
                    self.same((d, c) in one, (d, c) in pairs)
                    self.same([d, c] in one, False)
            for triple in dealing:
                self.same(triple in one, False)
        for thing in ANYTHING + (DEALT, DEALT[0]):
            self.same(thing in Deal(PAIR, DEALT), repr(thing) == "(0, 1)")
        for thing in ((0, True), (False, 1), (False, True), [0, 1], (0, 1, 0), "01"):
            self.same(thing in Deal(PAIR, DEALT), False)
            self.same(thing not in Deal(PAIR, DEALT), True)

    def test_equality(self):
        one = Deal(FOUR, ROUND)
        self.same(one == Deal(FOUR, ROUND), True)
        self.same(one != Deal(FOUR, ROUND), False)
        self.same(one == Deal(FOUR, ACROSS), False)
        self.same(one != Deal(FOUR, ACROSS), True)
        # The same dealing, but of another court.
        self.same(Deal(COPY, ()) == Deal(SEEN, ()), False)
        self.same(Deal(COPY, ()) != Deal(SEEN, ()), True)
        for thing in ANYTHING + (ROUND, (FOUR, ROUND), Court(FOUR), Order(FOUR), Table(FOUR, best_table(FOUR))):
            self.same(one == thing, False)
            self.same(thing == one, False)
            self.same(one != thing, True)

    def test_sum(self):
        for court in COURTS:
            found = support.dealings_of(court, best_table(court))[:4]
            for dealing in found:
                for more in found:
                    result = Deal(court, dealing) + Deal(court, more)
                    self.assertIsInstance(result, Deal)
                    self.same(result.inner, (court, mixed(court, dealing, more, (1, 2))))
                self.same((Deal(court, dealing) + Deal(court, dealing)).inner, (court, dealing))
        one, other = Deal(FOUR, STRAIGHT), Deal(FOUR, ACROSS)
        self.same((one + other).inner, (FOUR, ROUND))
        self.same((one.inner, other.inner), ((FOUR, STRAIGHT), (FOUR, ACROSS)))
        self.same((one + other) is one, False)
        for bad in ANYTHING + (ACROSS, Deal(PAIR, DEALT), Deal(SEEN, ()), Court(FOUR), (FOUR, ACROSS)):
            self.refuses("other", one.__add__, bad)
            with self.assertRaises(support.NotUsable):
                one + bad

    def test_call(self):
        for court, dealing in deals():
            amounts = {triple[:2]: triple[2] for triple in dealing}
            one = Deal(court, dealing)
            for here in range(len(court)):
                for there in range(len(court)):
                    self.same(one(here, there), amounts.get((here, there), (0, 1)))
                    self.same(one(there=there, here=here), amounts.get((here, there), (0, 1)))
        self.same(Deal(PAIR, DEALT)(1, 0), (0, 1))
        self.same(Deal(PAIR, DEALT)(0, 0), (0, 1))
        cases = wrong_cases(MIXED)
        one = Deal(MIXED, dealing_of(MIXED))
        for bad in cases:
            for there in (0, None):
                self.refuses("here", one.__call__, bad, there)
                self.refuses("here", one.__call__, there=there, here=bad)
            self.refuses("there", one.__call__, 0, bad)
            self.refuses("there", one.__call__, here=0, there=bad)

    def test_out_of_and_into(self):
        for court, dealing in deals():
            one = Deal(court, dealing)
            for case in range(len(court)):
                self.same(one.out_of(case), tuple(triple for triple in dealing if triple[0] == case))
                self.same(one.into(case), tuple(triple for triple in dealing if triple[1] == case))
                self.same(one.out_of(here=case), one.out_of(case))
                self.same(one.into(there=case), one.into(case))
        one = Deal(COIN, dealing_of(COIN))
        self.same((one.into(2), one.out_of(2)), (dealing_of(COIN), ()))
        for bad in wrong_cases(COIN):
            self.refuses("here", one.out_of, bad)
            self.refuses("here", one.out_of, here=bad)
            self.refuses("there", one.into, bad)
            self.refuses("there", one.into, there=bad)

    def test_woods(self):
        for court, dealing in deals():
            result = Deal(court, dealing).woods()
            self.assertIsInstance(result, Deal)
            self.same(result.inner[0], court)
            self.assertLessEqual(set(result.disputes), {triple[:2] for triple in dealing})
            self.same(ring_of(court, result.inner[1]), None)
            self.assertEqual(sum(value(wrong) for wrong in result.wrongs), sum(value(w) for w in dispute_wrongs(court, dealing)))
        self.same(len(Deal(FOUR, ROUND).woods()), 2)
