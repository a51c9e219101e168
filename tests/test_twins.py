"""[29] twins, [30] meetings, [31] bundles."""

from oneistrue.bundles import bundles_of, joined, sights_of
from oneistrue.courtchecker import is_court
from oneistrue.meetings import may_meet, meeting
from oneistrue.twins import blank_court, claimant_twin, defendant_twin
from tests import support
from tests.support import CHAIN, COIN, EXAMPLES, MIXED, PAIR, SEEN, WRONG_COURTS, Case, components, made_courts, wrong_cases
from tests.test_classes import WRONG_PAIRS

COURTS = EXAMPLES + tuple(made_courts(100, 1, 8, seed=21))


class TwinsTest(Case):
    def test_by_definition(self):
        for court in COURTS:
            n = range(len(court))
            ours = tuple(
                court[t][:3] + ((tuple(int(support.is_under(court, t, s)) for s in n), ()), 0) for t in n
            )
            theirs = tuple(
                court[t][:3] + (((), tuple(int(support.is_under(court, s, t)) for s in n)), 0) for t in n
            )
            self.same(claimant_twin(court), ours)
            self.same(defendant_twin(court), theirs)

    def test_twins_have_the_order(self):
        for court in COURTS:
            for twin in (claimant_twin(court), defendant_twin(court)):
                self.same(support.order(twin), support.order(court))

    def test_blank_court(self):
        for court in COURTS:
            pairs, size = support.order(court), len(court)
            result = blank_court(size, pairs)
            self.same(is_court(result), True)
            self.same(support.order(result), pairs)
            plain = tuple((1, (0, 1), (1, 1), holdings, sight) for _, _, _, holdings, sight in claimant_twin(court))
            self.same(result, plain)
        self.same(blank_court(1, ()), ((1, (0, 1), (1, 1), ((1,), ()), 0),))
        self.same([case[3] for case in blank_court(2, ((0, 1),))], [((1, 1), ()), ((0, 1), ())])

    def test_blank_court_refusals(self):
        wrong = WRONG_PAIRS + (((0, 1), (1, 2)), ((0, 1), (1, 0), (1, 2)), ((0, 2), (2, 1)))
        self.check_parameters(blank_court, {"size": 3, "pairs": ((0, 1), (0, 2), (1, 2))}, {"pairs": wrong})


class MeetingsTest(Case):
    def test_by_definition(self):
        for court in COURTS:
            pairs = support.order(court)
            for here in range(len(court)):
                for there in range(len(court)):
                    self.same(may_meet(court, here, there), (here, there) in pairs)
                    if (here, there) not in pairs:
                        self.refuses("there", meeting, court, here, there)
                        continue
                    rights = [(1, 2)] * len(court)
                    rights[here], rights[there] = (0, 1), (1, 1)
                    expected = tuple((1, right, (1, 1), case[3], case[4]) for right, case in zip(rights, court))
                    self.same(meeting(court, here, there), expected)

    def test_refusals(self):
        for court in (COIN, MIXED):
            here, there = support.order(court)[0]
            cases = wrong_cases(court)
            good = {"court": court, "here": here, "there": there}
            self.check_parameters(meeting, good, {"here": cases, "there": cases + (here,)})
            self.check_parameters(may_meet, good, {"here": cases, "there": cases})


class BundlesTest(Case):
    def test_by_definition(self):
        for court in COURTS:
            self.same(bundles_of(court), components(len(court), support.order(court)))
            sights = sorted({case[4] for case in court})
            lots = [tuple(k for k, case in enumerate(court) if case[4] == sight) for sight in sights]
            self.same(sights_of(court), tuple(sorted(lots)))

    def test_bundles_by_long_ways(self):
        holdings = ((0, 1, 1), (1, 0, 0), (0, 0, 1), (1, 1, 0), (0, 1, 0))
        court = tuple((1, (0, 1), (1, 1), (grades, ()), 0) for grades in holdings)
        self.same(support.order(court), ((0, 2), (0, 4), (3, 1), (3, 4)))
        self.same(bundles_of(court), ((0, 1, 2, 3, 4),))
        self.same(bundles_of(court[:4]), ((0, 2), (1, 3)))
        self.same(sights_of(SEEN + SEEN), ((0, 2), (1, 3)))

    def test_sights_in_the_sequence_of_their_lots(self):
        court = tuple(SEEN[0][:4] + (sight,) for sight in (9, 3, 9, 0))
        self.same(sights_of(court), ((0, 2), (1,), (3,)))

    def test_joined(self):
        for court, other in zip(COURTS, COURTS[1:] + COURTS[:1]):
            result = joined(court, other)
            ours = [len(holding) for holding in court[0][3]]
            theirs = [len(holding) for holding in other[0][3]]
            rise = max(case[4] for case in court) + 1
            expected = [
                case[:3] + (tuple(case[3][side] + (0,) * theirs[side] for side in (0, 1)), case[4]) for case in court
            ] + [
                case[:3] + (tuple((0,) * ours[side] + case[3][side] for side in (0, 1)), case[4] + rise) for case in other
            ]
            self.same(result, tuple(expected))
            self.same(is_court(result), True)
            size = len(court)
            pairs = support.order(court) + tuple((d + size, c + size) for d, c in support.order(other))
            self.same(support.order(result), pairs)

    def test_joined_refusals(self):
        self.check_parameters(joined, {"court": PAIR, "other": CHAIN}, {"other": WRONG_COURTS})
