"""[27] exhibits."""

from oneistrue.exhibits import left_out, needless_of, struck
from tests import support
from tests.support import EXAMPLES, MIXED, PAIR, SEEN, Case, made_courts, wrong_exhibits

COURTS = EXAMPLES + tuple(made_courts(150, 1, 8, seed=14))
TWO = ((1, (0, 1), (1, 1), ((1, 1), ()), 0), (1, (1, 1), (1, 1), ((0, 0), ()), 0))


def without(court, side, exhibit):
    result = []
    for weight, right, factors, holdings, sight in court:
        grades = [list(holding) for holding in holdings]
        grades[side][exhibit] = 0
        result.append((weight, right, factors, tuple(map(tuple, grades)), sight))
    return tuple(result)


def exhibits(court):
    return [(side, k) for side in (0, 1) for k in range(len(court[0][3][side]))]


class ExhibitsTest(Case):
    def test_left_out(self):
        for court in COURTS:
            for side, exhibit in exhibits(court):
                self.same(left_out(court, side, exhibit), without(court, side, exhibit))

    def test_needless(self):
        for court in COURTS:
            told = tuple(
                pair for pair in exhibits(court) if support.order(without(court, *pair)) == support.order(court)
            )
            self.same(needless_of(court), told)

    def test_struck(self):
        for court in COURTS:
            last, gone = court, []
            for pair in exhibits(court):
                if support.order(without(last, *pair)) == support.order(last):
                    last = without(last, *pair)
                    gone.append(pair)
            self.same(struck(court), (last, tuple(gone)))

    def test_struck_keeps_the_order(self):
        for court in COURTS:
            last, gone = struck(court)
            self.same(support.order(last), support.order(court))
            self.same(needless_of(last), gone)

    def test_one_of_two_alike_is_struck(self):
        self.same(struck(TWO), (without(TWO, 0, 0), ((0, 0),)))
        both = ((1, (0, 1), (1, 1), ((1, 0), (0,)), 0), (1, (1, 1), (1, 1), ((0, 0), (1,)), 0))
        self.same(needless_of(both), ((0, 0), (0, 1), (1, 0)))
        self.same(struck(both), (without(without(both, 0, 0), 0, 1), ((0, 0), (0, 1))))

    def test_without_exhibits(self):
        self.same(needless_of(SEEN), ())
        self.same(struck(SEEN), (SEEN, ()))

    def test_leaving_out_takes_no_pair(self):
        for court in COURTS:
            for side, exhibit in exhibits(court):
                left = support.order(left_out(court, side, exhibit))
                self.assertLessEqual(set(support.order(court)), set(left))

    def test_refusals(self):
        for side in (0, 1):
            wrong = {"side": support.WRONG_SIDES, "exhibit": wrong_exhibits(MIXED, side)}
            self.check_parameters(left_out, {"court": MIXED, "side": side, "exhibit": 0}, wrong)
        self.refuses("exhibit", left_out, PAIR, 1, 0)
        self.refuses("exhibit", left_out, SEEN, 0, 0)
