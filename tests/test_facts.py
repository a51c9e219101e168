"""[73] badpairs, [74] sheets, [75] fewest, [76] cheapest; (G9), and [82] as far as it speaks of them."""

import random
from itertools import combinations

from oneistrue.badpairs import bad_pairs, first_bad, is_right
from oneistrue.best import best_table, least_wrong
from oneistrue.cheapest import cheapest_facts
from oneistrue.courtchecker import is_court
from oneistrue.fewest import fewest_facts, fewest_paper, lets_fewest, open_pair
from oneistrue.hiding import order_of
from oneistrue.sheets import is_sheet, opened, tells_apart
from tests import support
from tests.support import (
    ANYTHING, CHAIN, COIN, COPY, EXAMPLES, FOUR, HIGH, MIXED, PAIR, SEEN, WRONG_NUMBERS, Case, all_alike, chain,
    crowded_courts, made_courts, unlike, value, wrong_cases,
)

FAMILIES = (all_alike(31), unlike(31), chain(31))
COURTS = EXAMPLES + (FOUR, HIGH) + FAMILIES + tuple(made_courts(40, 1, 8, seed=261)) + tuple(crowded_courts(25, 2, 8, seed=262))
FILM = ((0, 0), (1, 1), (1, 0))


def made_sheet(dice, court, many):
    """A sheet of so many facts by the dice; some are alike in all cases."""
    most = [dice.choice((0, 1, 1, 2)) for _ in range(many)]
    return tuple(tuple(dice.randint(0, top) for top in most) for _ in court)


def some_sheets(seed, courts=COURTS):
    dice = random.Random(seed)
    return [(court, made_sheet(dice, court, many)) for court in courts for many in (0, dice.randint(1, 4), 5)]


def fact_sets(sheet):
    facts = range(len(sheet[0]))
    return [some for many in range(len(facts) + 1) for some in combinations(facts, many)]


def bad(court):
    return [(d, c) for d, c in support.order(court) if value(court[d][1]) < value(court[c][1])]


def left(court, sheet, facts):
    """The bad pairs that the facts do not part."""
    return [(d, c) for d, c in bad(court) if all(sheet[d][fact] == sheet[c][fact] for fact in facts)]


def wrong_sheets(court):
    many = len(court)
    good = ((0, 1),) * many
    return (
        None, True, 0, "", "ab", [], list(good), (), good[1:] if many > 1 else (), good + good[:1], (0,) * many, ("01",) * many,
        ([0, 1],) * many, ((True, 1),) * many, ((-1, 1),) * many, ((None,),) * many, (((0,),),) * many, good[1:] + ((0, False),),
    ) + ((good[1:] + ((0,),), ((0,),) + good[1:], good[1:] + ((0, 1, 1),), good[1:] + (None,)) if many > 1 else ())


def wrong_facts(many):
    return (None, True, 0, "", "0", [], [0], (many,), (-1,), (True,), (False,), ("0",), (None,), (0, 0), ((0,),), (1, 0), (0, many))


class BadPairsTest(Case):
    def test_by_definition(self):
        told = {True: 0, False: 0}
        for court in COURTS:
            pairs = tuple(bad(court))
            self.same(bad_pairs(court), pairs)
            self.same(bad_pairs(court=court), pairs)
            self.same(is_right(court), not pairs)
            self.same(is_right(court=court), not pairs)
            self.same(first_bad(court), pairs[0] if pairs else None)
            self.same(first_bad(court=court), pairs[0] if pairs else None)
            self.same(least_wrong(court) == (0, 1), not pairs)
            self.assertEqual(support.is_rising(court, [value(case[1]) for case in court]), not pairs)
            told[not pairs] += 1
        self.assertGreater(min(told.values()), 10)

    def test_by_value(self):
        court = tuple((1, right, (1, 1), ((), ()), 0) for right in ((1, 2), (2, 5), (2, 4 - 1)))
        self.same(bad_pairs(court), ((0, 2), (1, 0), (1, 2)))
        self.same(first_bad(COIN), (0, 2))
        self.same((first_bad(PAIR), first_bad(COPY), first_bad(SEEN)), ((0, 1), None, None))


class SheetsTest(Case):
    def test_is_sheet(self):
        for court, sheet in some_sheets(263):
            self.same(is_sheet(court, sheet), True)
            self.same(is_sheet(court=court, thing=sheet), True)
        for court in (PAIR, COIN, MIXED, PAIR[:1]):
            for thing in wrong_sheets(court):
                self.same(is_sheet(court, thing), False)
        for thing in ANYTHING:
            self.same(is_sheet(COIN, thing), False)
        self.same(is_sheet(PAIR, ((), ())), True)
        self.same(is_sheet(PAIR, ((10 ** 60,), (0,))), True)

    def test_opened(self):
        for court, sheet in some_sheets(264):
            for facts in fact_sets(sheet):
                seen = [(case[4], tuple(sheet[here][fact] for fact in facts)) for here, case in enumerate(court)]
                places = {pair: at for at, pair in enumerate(sorted(set(seen)))}
                expected = tuple(case[:4] + (places[pair],) for case, pair in zip(court, seen))
                result = opened(court, sheet, facts)
                self.same(result, expected)
                self.same(opened(court=court, sheet=sheet, facts=facts), expected)
                self.same(is_court(result), True)
                self.same(bad_pairs(result), tuple(left(court, sheet, facts)))

    def test_opened_by_hand(self):
        self.same([case[4] for case in opened(COIN, FILM, (0,))], [0, 1, 1])
        self.same([case[4] for case in opened(COIN, FILM, (0, 1))], [0, 2, 1])
        self.same([case[4] for case in opened(MIXED, ((0,),) * 4, ())], [1, 1, 1, 0])
        self.same([case[4] for case in opened(MIXED, ((9,), (8,), (9,), (0,)), (0,))], [2, 1, 2, 0])

    def test_tells_apart(self):
        told = {True: 0, False: 0}
        for court, sheet in some_sheets(265, EXAMPLES + FAMILIES):
            for facts in fact_sets(sheet)[::3]:
                for here in range(len(court)):
                    for there in range(len(court)):
                        expected = any(sheet[here][fact] != sheet[there][fact] for fact in facts)
                        self.same(tells_apart(court, sheet, facts, here, there), expected)
                        told[expected] += 1
        self.same(tells_apart(there=2, here=1, facts=(1,), sheet=FILM, court=COIN), True)
        self.assertGreater(min(told.values()), 200)

    def test_refusals(self):
        for court in (PAIR, COIN, MIXED):
            sheet = made_sheet(random.Random(1), court, 2)
            good = {"court": court, "sheet": sheet, "facts": (1,)}
            wrong = {"sheet": wrong_sheets(court), "facts": wrong_facts(2)}
            self.check_parameters(opened, good, wrong)
            self.check_parameters(open_pair, good, wrong)
            cases = {"here": wrong_cases(court), "there": wrong_cases(court)}
            self.check_parameters(tells_apart, {**good, "here": 0, "there": 0}, {**wrong, **cases})
        empty = ((), ())
        self.refuses("facts", opened, PAIR, empty, (0,))
        self.same(opened(PAIR, empty, ()), PAIR)


class FewestTest(Case):
    def test_open_pair(self):
        for court, sheet in some_sheets(266):
            for facts in fact_sets(sheet):
                pairs = left(court, sheet, facts)
                self.same(open_pair(court, sheet, facts), pairs[0] if pairs else None)
                self.same(open_pair(court=court, sheet=sheet, facts=facts), pairs[0] if pairs else None)

    def test_fewest_and_paper(self):
        told = set()
        for court, sheet in some_sheets(267):
            parting = [facts for facts in fact_sets(sheet) if not left(court, sheet, facts)]
            result = fewest_facts(court, sheet)
            self.same(fewest_facts(court=court, sheet=sheet), result)
            paper = fewest_paper(court, sheet)
            self.same(fewest_paper(court=court, sheet=sheet), paper)
            if not parting:
                self.same(result, None)
                self.assertEqual(paper[0], "never")
                self.assertIn(paper[1:], left(court, sheet, range(len(sheet[0]))))
                self.same(len(paper), 3)
            else:
                self.assertIn(result, parting)
                self.assertEqual(len(result), len(parting[0]))
                self.check_open(court, sheet, paper, parting)
            self.same(lets_fewest(court, sheet, paper), len(result) if parting else None)
            self.same(lets_fewest(court=court, sheet=sheet, thing=paper), len(result) if parting else None)
            told.add(None if result is None else len(result))
        self.assertTrue({None, 0, 1, 2, 3} <= told, told)

    def check_open(self, court, sheet, paper, parting):
        word, facts, rows = paper
        self.same(word, "open")
        self.assertIn(facts, [some for some in parting if len(some) == len(parting[0])])
        lesser = list(combinations(range(len(sheet[0])), len(facts) - 1)) if facts else []
        self.assertEqual(len(rows), len(lesser))
        self.assertIsInstance(rows, tuple)
        for row, some in zip(rows, lesser):
            self.assertIn(row, left(court, sheet, some))

    def test_by_hand(self):
        self.same(fewest_paper(COIN, FILM), ("open", (0, 1), ((1, 2), (0, 2))))
        self.same(fewest_paper(PAIR, ((4,), (4,))), ("never", 0, 1))
        self.same(fewest_paper(SEEN, ((), ())), ("open", (), ()))
        self.same(fewest_paper(PAIR, ((), ())), ("never", 0, 1))
        self.same(fewest_facts(PAIR, ((4, 4, 3), (4, 4, 4))), (2,))
        self.same(fewest_paper(PAIR, ((4, 4, 3), (4, 4, 4))), ("open", (2,), ((0, 1),)))

    def test_shapes(self):
        shapes = (
            None, True, 0, "open", "", (), [], ("open",), ("open", (), (), ()), ("open", ()), ["open", (), ()], ("Open", (), ()),
            (None, (), ()), ("never",), ("never", 0), ("never", 0, 1, 2), ["never", 0, 1], ("nevers", 0, 1), (True, 0, 1),
            (["open"], (), ()), (("open",), (), ()),
        )
        for court, sheet in ((PAIR, ((4,), (4,))), (COIN, FILM), (SEEN, ((), ()))):
            for bad_one in shapes + ANYTHING:
                self.check_paper("shape", -1, lets_fewest, court, sheet, bad_one)

    def test_wrong_open_papers(self):
        for court, sheet in ((COIN, FILM), (COIN, ((0, 0, 0), (1, 1, 0), (1, 0, 1)))):
            paper = fewest_paper(court, sheet)
            for facts in wrong_facts(len(sheet[0])) + ((), (0,)):
                for rows in (paper[2], None):
                    self.check_paper("facts", 1, lets_fewest, court, sheet, ("open", facts, rows))
            for rows in (None, True, 0, "", (), paper[2][1:], paper[2] + paper[2][:1], list(paper[2]), "ab", dict.fromkeys(paper[2])):
                self.check_paper("rows", 2, lets_fewest, court, sheet, ("open", paper[1], rows))
        rows = ((1, 2), (0, 2))
        wrong = (None, True, (), (1,), [1, 2], (1, 2, 0), (2, 1), (0, 1), (0, 0), (True, 2), (1, 3), (-1, 2), ("1", 2), ((1,), 2))
        for bad_one in wrong + ((0, 2),):
            self.check_paper("row", 0, lets_fewest, COIN, FILM, ("open", (0, 1), (bad_one, rows[1])))
            self.check_paper("row", 0, lets_fewest, COIN, FILM, ("open", (0, 1), (bad_one, None)))
        for bad_one in wrong + ((1, 2),):
            self.check_paper("row", 1, lets_fewest, COIN, FILM, ("open", (0, 1), (rows[0], bad_one)))
        # More facts than needed may part all pairs: the rows tell that they are no fewest.
        sheet = ((0, 0), (0, 1))
        self.same(lets_fewest(PAIR, sheet, ("open", (1,), ((0, 1),))), 1)
        self.check_paper("row", 1, lets_fewest, PAIR, sheet, ("open", (0, 1), ((0, 1), (0, 1))))
        self.check_paper("rows", 2, lets_fewest, PAIR, sheet, ("open", (0, 1), ((0, 1),)))
        self.check_paper("row", 0, lets_fewest, SEEN, ((0,), (1,)), ("open", (0,), ((0, 1),)))
        self.check_paper("rows", 2, lets_fewest, SEEN, ((0,), (1,)), ("open", (), ((0, 1),)))

    def test_wrong_never_papers(self):
        sheet = ((4, 0), (4, 0))
        self.same(lets_fewest(PAIR, sheet, ("never", 0, 1)), None)
        for here, there in (
            (1, 0), (0, 0), (False, 1), (0, True), (0, 2), (-2, 1), (None, 1), ("0", 1), ((0,), 1), ([0], [1]), ((0, 1), ()),
        ):
            self.check_paper("pair", -1, lets_fewest, PAIR, sheet, ("never", here, there))
        self.check_paper("pair", -1, lets_fewest, PAIR, ((4, 0), (4, 1)), ("never", 0, 1))
        self.check_paper("pair", -1, lets_fewest, SEEN, ((0,), (0,)), ("never", 0, 1))
        self.check_paper("pair", -1, lets_fewest, COIN, FILM, ("never", 0, 2))
        # One pair unparted is enough, whatever parts the others.
        self.same(lets_fewest(COIN, ((0,), (1,), (1,)), ("never", 1, 2)), None)
        self.check_paper("pair", -1, lets_fewest, COIN, ((0,), (1,), (1,)), ("never", 0, 2))

    def test_changed_papers(self):
        """A paper with one part changed is accepted exactly if it is one by the words of [75]."""
        dice = random.Random(268)
        told = set()
        for court, sheet in some_sheets(269, EXAMPLES + tuple(crowded_courts(20, 2, 5, seed=270))):
            paper = fewest_paper(court, sheet)
            pairs = order_of(court) + ((0, 0),)
            for _ in range(8):
                if paper[0] == "never":
                    changed = ("never",) + dice.choice(pairs)
                    fits = changed[1:] in left(court, sheet, range(len(sheet[0])))
                    told.add(("never", fits))
                    if not fits:
                        self.check_paper("pair", -1, lets_fewest, court, sheet, changed)
                elif paper[2]:
                    at = dice.randrange(len(paper[2]))
                    row = dice.choice(pairs)
                    changed = ("open", paper[1], paper[2][:at] + (row,) + paper[2][at + 1:])
                    some = list(combinations(range(len(sheet[0])), len(paper[1]) - 1))[at]
                    fits = row in left(court, sheet, some)
                    told.add(("open", fits))
                    if not fits:
                        self.check_paper("row", at, lets_fewest, court, sheet, changed)
                    else:
                        self.same(lets_fewest(court, sheet, changed), len(paper[1]))
        self.assertEqual(len(told), 4)

    def test_refusals(self):
        for court in (PAIR, COIN, MIXED):
            good = {"court": court, "sheet": made_sheet(random.Random(2), court, 2)}
            wrong = {"sheet": wrong_sheets(court)}
            self.check_parameters(fewest_facts, good, wrong)
            self.check_parameters(fewest_paper, good, wrong)
            for bad_one in wrong["sheet"]:
                self.refuses("sheet", lets_fewest, court, bad_one, None)
                self.refuses("sheet", lets_fewest, thing=("open", (), ()), sheet=bad_one, court=court)


class CheapestTest(Case):
    def test_by_definition(self):
        dice = random.Random(271)
        told = set()
        for court, sheet in some_sheets(272):
            many = len(sheet[0])
            parting = [facts for facts in fact_sets(sheet) if not left(court, sheet, facts)]
            for most in (0, 1, 3, 60):
                costs = tuple(dice.randint(0, most) for _ in range(many))
                result = cheapest_facts(court, sheet, costs)
                self.same(cheapest_facts(court=court, sheet=sheet, costs=costs), result)
                if not parting:
                    self.same(result, None)
                else:
                    self.assertEqual((type(result), len(result)), (tuple, 2))
                    least = min(sum(costs[fact] for fact in facts) for facts in parting)
                    self.same(result[0], least)
                    self.assertIn(repr(result[1]), [repr(facts) for facts in parting])
                    self.assertEqual(sum(costs[fact] for fact in result[1]), least)
                told.add(None if result is None else len(result[1]))
        self.assertTrue({None, 0, 1, 2, 3} <= told, told)

    def test_by_hand(self):
        sheet = ((0, 0, 0), (1, 1, 0), (1, 0, 1))
        self.same(cheapest_facts(COIN, sheet, (2, 3, 6)), (5, (0, 1)))
        self.same(cheapest_facts(COIN, sheet, (2, 3, 4)), (4, (2,)))
        self.same(cheapest_facts(PAIR, ((), ()), ()), None)
        self.same(cheapest_facts(SEEN, ((), ()), ()), (0, ()))
        self.same(cheapest_facts(SEEN, ((0, 1), (1, 1)), (1, 1)), (0, ()))
        self.same(cheapest_facts(PAIR, ((4,), (4,)), (0,)), None)

    def test_refusals(self):
        for court in (PAIR, COIN, MIXED):
            good = {"court": court, "sheet": made_sheet(random.Random(3), court, 2), "costs": (0, 4)}
            costs = (None, True, 0, "", (), (0,), (0, 1, 2), [0, 1], "01", ((0,), (1,))) + tuple((0, one) for one in WRONG_NUMBERS)
            self.check_parameters(cheapest_facts, good, {"sheet": wrong_sheets(court), "costs": costs})
        self.refuses("costs", cheapest_facts, PAIR, ((), ()), (0,))


class ConsequencesTest(Case):
    def test_fewest_part_all(self):
        for court, sheet in some_sheets(273):
            facts = fewest_facts(court, sheet)
            if facts is not None:
                self.same(is_right(opened(court, sheet, facts)), True)
                self.same(best_table(opened(court, sheet, facts)), tuple(case[1] for case in court))
        self.same(is_right(CHAIN), False)
