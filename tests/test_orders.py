"""[28] orders."""

from oneistrue.orders import lets_parting, parting, same_order
from tests import support
from tests.support import COIN, COPY, PAIR, SEEN, WRONG_COURTS, Case, made_courts, value, wrong_cases, wrong_tables

RIGHTS = ((0, 1), (1, 1))


def couples():
    dozens = [made_courts(120, size, size, seed=15 + size) for size in range(1, 7)]
    return [couple for courts in dozens for couple in zip(courts[::2], courts[1::2])] + [
        (PAIR, SEEN), (SEEN, PAIR), (PAIR, COPY), (COPY, SEEN), (PAIR, PAIR[::-1]), (PAIR, PAIR),
    ]


COUPLES = couples()


class OrdersTest(Case):
    def test_same_order(self):
        told = []
        for court, other in COUPLES:
            told.append(same_order(court, other))
            self.same(told[-1], support.order(court) == support.order(other))
        self.assertEqual(set(told), {True, False})

    def test_parting(self):
        for court, other in COUPLES:
            ours, theirs = support.order(court), support.order(other)
            result = parting(court, other)
            if ours == theirs:
                self.same(result, None)
                continue
            self.assertIsInstance(result, tuple)
            here, there, rights = result
            self.assertNotEqual((here, there) in ours, (here, there) in theirs)
            lacking = other if (here, there) in ours else court
            table = [value(award) for award in rights]
            self.assertEqual(len(rights), len(court))
            self.assertTrue(support.is_rising(lacking, table))
            self.assertLess(table[here], table[there])
            self.same(lets_parting(court, other, result), 0 if lacking is court else 1)

    def test_lets(self):
        self.same(lets_parting(PAIR, SEEN, (0, 1, RIGHTS)), 1)
        self.same(lets_parting(SEEN, PAIR, (0, 1, RIGHTS)), 0)
        self.same(lets_parting(PAIR, SEEN, (0, 1, ((-1, 2), (-1, 3)))), 1)
        self.same(lets_parting(court=PAIR, other=SEEN, thing=(0, 1, RIGHTS)), 1)
        self.same(lets_parting(PAIR, PAIR[::-1], (1, 0, ((1, 1), (0, 1)))), 0)

    def check(self, word, at, thing, court=PAIR, other=SEEN):
        with self.subTest(thing=thing):
            self.check_paper(word, at, lets_parting, court, other, thing)

    def test_shape(self):
        for bad in (None, True, 0, "", "012", (), (0, 1), (0, 1, RIGHTS, 0), [0, 1, RIGHTS], RIGHTS):
            self.check("shape", -1, bad)

    def test_pair(self):
        for bad in wrong_cases(PAIR):
            self.check("pair", 0, (bad, 1, RIGHTS))
            self.check("pair", 0, (0, bad, RIGHTS))
            self.check("pair", 0, (bad, bad, None))
        for here, there in ((1, 0), (0, 0), (1, 1)):
            self.check("pair", 0, (here, there, RIGHTS))
            self.check("pair", 0, (here, there, None))
        for other in (PAIR, PAIR[:1] + PAIR[1:]):
            self.check("pair", 0, (0, 1, RIGHTS), PAIR, other)
        self.check("pair", 0, (0, 1, RIGHTS), PAIR[:1] * 2, PAIR)
        self.check("pair", 0, (0, 1, RIGHTS), COPY, SEEN)

    def test_rights(self):
        for bad in wrong_tables(PAIR):
            self.check("rights", 2, (0, 1, bad))
        for bad in (((1, 1), (0, 1)), ((0, 1), (0, 1)), ((1, 2), (1, 2))):
            self.check("rights", 2, (0, 1, bad))

    def test_rights_that_do_not_rise(self):
        part = COIN[:2] + (COIN[2][:4] + (1,),)
        flat = COIN[:1] + (COIN[1][:4] + (1,),) + COIN[2:]
        # In flat 0 hides under 2, in COIN 1 does, too; so rights that fall from 0 to 2 rise in neither.
        self.same(lets_parting(COIN, flat, (1, 2, ((1, 1), (0, 1), (1, 1)))), 1)
        self.check("rights", 2, (1, 2, ((0, 1), (0, 1), (1, 1))), COIN, flat)
        self.check("rights", 2, (1, 2, ((0, 1), (0, 1), (1, 1))), flat, COIN)
        self.same(lets_parting(COIN, part, (1, 2, ((0, 1), (0, 1), (1, 1)))), 1)

    def test_other_is_a_court_of_as_many_cases(self):
        wrong = {"other": WRONG_COURTS + (COIN, PAIR[:1], PAIR * 2)}
        self.check_parameters(same_order, {"court": PAIR, "other": SEEN}, wrong)
        self.check_parameters(parting, {"court": PAIR, "other": SEEN}, wrong)
        for bad in wrong["other"]:
            self.refuses("other", lets_parting, PAIR, bad, (0, 1, RIGHTS))
            self.refuses("other", lets_parting, PAIR, bad, None)
            self.refuses("other", lets_parting, court=PAIR, other=bad, thing=None)
