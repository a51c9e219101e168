"""[53] plans, [54] hearings, [55] hearingkinds; (G3), (G4)."""

import random

from oneistrue.best import best_table
from oneistrue.dealing import dealing_of
from oneistrue.hearingkinds import is_hearing, is_row
from oneistrue.hearings import hearing_of, told_award
from oneistrue.plans import pleas_of, replies_of
from tests import support
from tests.support import (
    ANYTHING, CHAIN, COIN, COPY, EXAMPLES, FOUR, HIGH, MIXED, PAIR, ROUND, SEEN, WRONG_QUOTIENTS, WRONG_SIDES, Case, all_alike,
    altered, certain, chain, crowded_courts, made_courts, made_hearing, quotient, unlike, value, wrong_cases,
)

FAMILIES = (all_alike(13, 6), unlike(13, 6), chain(13, 6), chain(14, 6))
COURTS = EXAMPLES + (FOUR, HIGH) + FAMILIES + tuple(made_courts(60, 1, 6, seed=161)) + tuple(crowded_courts(40, 2, 6, seed=162))
DEALT = ((0, 1, (1, 2)),)


def deals(courts=COURTS):
    """Triples of a court, its best table and one of its dealings."""
    found = []
    for court in courts:
        best = best_table(court)
        dealings = [dealing_of(court)]
        if len(support.edges(court, best)) < 7:
            dealings += support.dealings_of(court, best)[:3]
        found += [(court, best, dealing) for dealing in dealings]
    return found


def ways(court, best, dealing, plea, reply):
    """The award that [54] tells, and the name of the way in which it is told."""
    right = [value(case[1]) for case in court]
    pulls = support.pulls(court, [value(award) for award in best])
    if plea == reply:
        return "one", right[plea]
    if (reply, plea) in [triple[:2] for triple in dealing]:
        return "dispute", value(best[plea])
    reply_counts = pulls[reply] >= 0 and support.tells(court, 0, reply, plea)
    plea_counts = pulls[plea] <= 0 and support.tells(court, 1, plea, reply)
    if reply_counts and not plea_counts:
        return "reply", right[reply]
    if plea_counts and not reply_counts:
        return "plea", right[plea]
    if reply_counts and plea_counts:
        return "both", max(right[reply], value(best[plea]))
    return "neither", right[support.tellers(court, plea, reply)[0]]


class PlansTest(Case):
    def test_rows(self):
        for court, best, dealing in deals():
            size = range(len(court))
            amounts = {triple[:2]: value(triple[2]) for triple in dealing}
            pulls = support.pulls(court, [value(award) for award in best])
            pleas = tuple(
                tuple(quotient(amounts.get((t, c), 0) / pulls[t]) for c in size) if pulls[t] > 0 else certain(len(court), t)
                for t in size
            )
            replies = tuple(
                tuple(quotient(amounts.get((d, t), 0) / -pulls[t]) for d in size) if pulls[t] < 0 else certain(len(court), t)
                for t in size
            )
            self.same(pleas_of(court, dealing), pleas)
            self.same(replies_of(court, dealing), replies)
            for here in size:
                self.same(is_row(court, 0, here, pleas[here]), True)
                self.same(is_row(court, 1, here, replies[here]), True)

    def test_by_hand(self):
        self.same(pleas_of(PAIR, DEALT), (((0, 1), (1, 1)), ((0, 1), (1, 1))))
        self.same(replies_of(PAIR, DEALT), (((1, 1), (0, 1)), ((1, 1), (0, 1))))
        half = ((0, 1), (0, 1), (1, 2), (1, 2))
        self.same(pleas_of(FOUR, ROUND), (half, half, certain(4, 2), certain(4, 3)))

    def test_refusals(self):
        for court, dealing in ((PAIR, DEALT), (FOUR, ROUND), (SEEN, ()), (MIXED, dealing_of(MIXED))):
            for function in (pleas_of, replies_of, hearing_of):
                self.check_parameters(function, {"court": court, "dealing": dealing}, {"dealing": altered(dealing)})


class HearingsTest(Case):
    def test_each_way(self):
        told = set()
        for court, best, dealing in deals():
            for plea in range(len(court)):
                for reply in range(len(court)):
                    if not support.tellers(court, plea, reply):
                        self.refuses("reply", told_award, court, dealing, plea, reply)
                        self.refuses("reply", told_award, reply=reply, plea=plea, dealing=dealing, court=court)
                        continue
                    way, award = ways(court, best, dealing, plea, reply)
                    self.same(told_award(court, dealing, plea, reply), quotient(award))
                    told.add((way, way == "both" and award > value(best[plea])))
        names = {("one", False), ("dispute", False), ("reply", False), ("plea", False), ("both", False), ("both", True)}
        self.assertLessEqual(names | {("neither", False)}, told)

    def test_hearing_of(self):
        for court, best, dealing in deals():
            size = range(len(court))
            awards = tuple(
                tuple(
                    quotient(ways(court, best, dealing, plea, reply)[1]) if support.tellers(court, plea, reply) else None
                    for reply in size
                )
                for plea in size
            )
            hearing = hearing_of(court, dealing)
            self.same(hearing, (pleas_of(court, dealing), replies_of(court, dealing), awards))
            self.same(is_hearing(court, hearing), True)

    def test_it_is_a_one_liar_hearing_with_the_best_table(self):
        for court, best, dealing in deals():
            hearing = hearing_of(court, dealing)
            self.assertIsNone(support.hearing_fault(court, hearing), (court, dealing))
            self.same(tuple(quotient(support.mean(court, hearing, here)) for here in range(len(court))), best)

    def test_all_pairs_told_in_a_case_have_one_award(self):
        for court, best, dealing in deals():
            hearing = hearing_of(court, dealing)
            for here in range(len(court)):
                awards = {
                    hearing[2][plea][reply] for plea in range(len(court)) for reply in range(len(court))
                    if hearing[0][here][plea][0] and hearing[1][here][reply][0]
                }
                self.assertEqual(awards, {best[here]})
                liars = [side for side in (0, 1) if support.lies(hearing, side, here)]
                self.assertEqual(len(liars), int(best[here] != court[here][1]))

    def test_rights_that_rise(self):
        for court in (COPY, SEEN, unlike(13, 6)):
            hearing = hearing_of(court, ())
            true = tuple(certain(len(court), t) for t in range(len(court)))
            self.same(hearing[:2], (true, true))
            self.same(tuple(hearing[2][t][t] for t in range(len(court))), tuple(case[1] for case in court))

    def test_what_the_document_tells_of_coin(self):
        dealing = ((0, 2, (1, 1)), (1, 2, (1, 1)))
        hearing = hearing_of(COIN, dealing)
        self.same((hearing[0][2], hearing[1][2]), (certain(3, 2), ((1, 2), (1, 2), (0, 1))))
        self.same(hearing_of(PAIR, DEALT)[2], (((0, 1), (0, 1)), ((1, 2), (1, 1))))
        self.same(hearing_of(SEEN, ())[2], (((0, 1), None), (None, (1, 1))))
        # Where both count, with the greater one of both awards.
        self.same(told_award(PAIR, DEALT, 1, 1), (1, 1))

    def test_refusals(self):
        cases = wrong_cases(CHAIN)
        dealing = dealing_of(CHAIN)
        good = {"court": CHAIN, "dealing": dealing, "plea": 1, "reply": 0}
        self.check_parameters(told_award, good, {"dealing": altered(dealing), "plea": cases, "reply": cases})
        # What can't be told is refused behind all others, also by a plea that is none.
        self.refuses("dealing", told_award, SEEN, None, 0, 1)
        self.refuses("plea", told_award, SEEN, (), 2, 1)
        self.refuses("reply", told_award, SEEN, (), 0, 1)


def wrong_rows(court, side, here):
    """Values that are no row of the side in the case, by one fault each."""
    size = len(court)
    row = certain(size, here)
    told = support.stories(court, side, here)
    wrong = [None, True, 0, "", (), [], list(row), row[:-1], row + ((0, 1),), row + ((1, 1),), ((0, 1),) * size, row * 2]
    wrong += [row[:here] + (bad,) + row[here + 1:] for bad in WRONG_QUOTIENTS + ((1, 2), (2, 1), (0, 1), (-1, 1))]
    for spot in range(size):
        if spot != here:
            wrong.append(row[:spot] + ((1, 2),) + row[spot + 1:])
            half = [(0, 1)] * size
            half[spot], half[here] = (1, 3), (2, 3)
            if spot not in told:
                wrong += [tuple(half), certain(size, spot)]
            half[spot], half[here] = (-1, 1), (2, 1)
            wrong.append(tuple(half))
            half[spot] = [0, 1]
            half[here] = (1, 1)
            wrong.append(tuple(half))
    return wrong


class KindsTest(Case):
    def test_rows(self):
        dice = random.Random(163)
        for court in COURTS[:60]:
            for side in (0, 1):
                for here in range(len(court)):
                    for _ in range(3):
                        self.same(is_row(court, side, here, support.made_row(dice, court, side, here)), True)
                    for story in range(len(court)):
                        told = support.tells(court, side, here, story)
                        self.same(is_row(court, side, here, certain(len(court), story)), told)
                        self.same(is_row(thing=certain(len(court), story), here=here, side=side, court=court), told)
                    for bad in wrong_rows(court, side, here):
                        self.same(is_row(court, side, here, bad), False)

    def test_row_parameters(self):
        for thing in (certain(4, 0), None):
            good = {"court": MIXED, "side": 1, "here": 0, "thing": thing}
            self.check_parameters(is_row, good, {"side": WRONG_SIDES, "here": wrong_cases(MIXED)})
        for thing in ANYTHING:
            self.same(is_row(PAIR, 0, 0, thing), repr(thing) in ("((0, 1), (1, 1))",))

    def test_hearings(self):
        dice = random.Random(164)
        for court in COURTS[:70]:
            hearing = made_hearing(dice, court)
            self.same(is_hearing(court, hearing), True)
            self.same(is_hearing(thing=hearing, court=court), True)
            size = range(len(court))
            for side in (0, 1):
                here = dice.choice(size)
                for bad in wrong_rows(court, side, here):
                    self.same(is_hearing(court, support.with_row(hearing, side, here, bad)), False)
            for plea in size:
                for reply in size:
                    is_told = bool(support.tellers(court, plea, reply))
                    self.same(is_hearing(court, support.with_award(hearing, plea, reply, None)), not is_told)
                    self.same(is_hearing(court, support.with_award(hearing, plea, reply, (7, 3))), is_told)
            for bad in WRONG_QUOTIENTS[1:]:
                self.same(is_hearing(court, support.with_award(hearing, size[-1], size[-1], bad)), False)

    def test_no_hearings(self):
        for court in (PAIR, SEEN, MIXED):
            hearing = hearing_of(court, dealing_of(court))
            pleas, replies, awards = hearing
            wrong = [
                None, True, (), [], list(hearing), hearing[:2], hearing + (awards,), (None, replies, awards), (pleas, None, awards),
                (pleas, replies, None), (list(pleas), replies, awards), (pleas, list(replies), awards), (pleas, replies, list(awards)),
                (pleas[:-1], replies, awards), (pleas, replies[:-1], awards), (pleas, replies, awards[:-1]),
                (pleas + pleas[:1], replies, awards), (pleas, replies, awards + awards[:1]),
                (pleas, replies, awards[:-1] + (awards[-1][:-1],)), (pleas, replies, awards[:-1] + (awards[-1] + ((0, 1),),)),
                (pleas, replies, awards[:-1] + (list(awards[-1]),)), (pleas, replies, (None,) + awards[1:]), (awards, replies, pleas),
            ]
            for thing in list(ANYTHING) + wrong:
                self.same(is_hearing(court, thing), False)

    def test_rows_of_the_other_side(self):
        hearing = hearing_of(PAIR, DEALT)
        self.same(is_hearing(PAIR, hearing), True)
        self.same(is_hearing(PAIR, (hearing[1], hearing[0], hearing[2])), False)
