"""[49] tablepapers, [51] carried, and the consequences [52] that speak of them."""

from oneistrue.best import best_table
from oneistrue.carried import givers_of, hung_lots, merged_dealing, takers_of, turned_dealing
from oneistrue.dealing import dealing_of
from oneistrue.merging import merged, turned
from oneistrue.mixes import mixed
from oneistrue.tablepapers import lets_table, table_paper
from tests import support
from tests.support import (
    CHAIN, COIN, COPY, EXAMPLES, FOUR, HIGH, MIXED, PAIR, ROUND, SEEN, Case, all_alike, all_lots, altered, chain, components,
    crowded_courts, made_courts, made_table, quotient, unlike, value, wrong_lots, wrong_tables,
)
from tests.test_dealing import DEALT, HALVES, LEANING, lowers, raises, rising_tables
import random

FAMILIES = (all_alike(9), unlike(9), chain(9))
COURTS = EXAMPLES + (FOUR, HIGH, LEANING) + FAMILIES + tuple(made_courts(60, 1, 7, seed=131)) + tuple(
    crowded_courts(60, 2, 7, seed=132)
)


class PapersTest(Case):
    def tables(self, court):
        dice = random.Random(133)
        return rising_tables(court, 134) + [made_table(dice, len(court)) for _ in range(3)]

    def test_each_paper_is_let_and_true(self):
        words = set()
        for court in COURTS:
            for table in self.tables(court):
                paper = table_paper(court, table)
                word = paper[0]
                words.add(word)
                self.same(lets_table(court, table, paper), word == "dealt")
                awards = [value(award) for award in table]
                self.assertEqual(word == "falls", not support.is_rising(court, awards))
                self.assertEqual(word == "dealt", table == best_table(court))
                if word == "falls":
                    _, here, there = paper
                    self.assertIn((here, there), support.order(court))
                    self.assertLess(awards[here], awards[there])
                if word == "dealt":
                    self.assertTrue(support.is_dealing(court, table, paper[1]))
                if word == "raise":
                    self.assertTrue(raises(court, table, paper[1]))
                if word == "lower":
                    self.assertTrue(lowers(court, table, paper[1]))
        self.assertEqual(words, {"falls", "dealt", "raise", "lower"})

    def test_lots_by_definition(self):
        for court in COURTS[::3]:
            for table in self.tables(court):
                awards = [value(award) for award in table]
                pulls = support.pulls(court, awards)
                for lot in all_lots(len(court))[:32]:
                    for word, moves in (("raise", raises), ("lower", lowers)):
                        if not support.is_rising(court, awards):
                            self.check_paper("falls", 0, lets_table, court, table, (word, lot))
                        elif moves(court, table, lot):
                            self.same(lets_table(court, table, (word, lot)), False)
                        else:
                            self.check_lot(court, table, word, lot, sum(pulls[k] for k in lot))

    def check_lot(self, court, table, word, lot, pull):
        """The lot does not move the table: its form is wrong, or only its pull."""
        pairs = [(d, c) for d, c in support.order(court) if table[d] == table[c]]
        if word == "raise":
            whole = all(d in lot for d, c in pairs if c in lot)
        else:
            whole = all(c in lot for d, c in pairs if d in lot)
        if not lot or len({table[k] for k in lot}) > 1 or not whole:
            self.check_paper("lot", 1, lets_table, court, table, (word, lot))
        else:
            self.assertTrue(pull >= 0 if word == "raise" else pull <= 0)
            self.check_paper("pull", 1, lets_table, court, table, (word, lot))

    def test_shape(self):
        things = (
            None, True, 0, "", "dealt", (), ("dealt",), ("raise",), ("lower",), ("falls",), ("falls", 0), ("falls", (0, 1)),
            ("falls", 0, 1, 0), ("dealt", (), ()), ("raise", (0,), 0), ["dealt", ()], ["falls", 0, 1], ("rise", (0,)), ("", ()),
            (0, ()), (None, ()), (("dealt",), ()), ((), ()), ("Dealt", ()), ("lower", 0, 1), ("dealt", 0, 1), (True, 0, 1),
            ("fall", 0, 1), ("raise lower", ()),
        )
        for table in (HALVES, ((0, 1), (1, 1)), ((1, 1), (1, 1))):
            for thing in things:
                self.check_paper("shape", -1, lets_table, PAIR, table, thing)

    def test_dealt(self):
        falling = ((0, 1), (1, 1))
        for second in (DEALT, (), None):
            self.check_paper("falls", 1, lets_table, PAIR, falling, ("dealt", second))
        self.same(lets_table(PAIR, HALVES, ("dealt", DEALT)), True)
        self.same(lets_table(SEEN, ((0, 1), (1, 1)), ("dealt", ())), True)
        self.check_paper("shape", -1, lets_table, PAIR, HALVES, ("dealt", list(DEALT)))
        self.check_paper("shape", -1, lets_table, PAIR, HALVES, ("dealt", None))
        self.check_paper("dispute", 1, lets_table, PAIR, HALVES, ("dealt", DEALT + (None,)))
        self.check_paper("sequence", 1, lets_table, PAIR, HALVES, ("dealt", DEALT + DEALT))
        self.check_paper("order", 0, lets_table, PAIR, HALVES, ("dealt", ((1, 0, (1, 2)),)))
        self.check_paper("awards", 0, lets_table, PAIR, ((1, 1), (0, 1)), ("dealt", DEALT))
        self.check_paper("given", 0, lets_table, PAIR, HALVES, ("dealt", ()))
        self.check_paper("taken", 1, lets_table, PAIR, ((1, 1), (1, 1)), ("dealt", ((0, 1, (1, 1)),)))

    def test_raise_and_lower(self):
        falling = ((0, 1), (1, 1))
        ones = ((1, 1), (1, 1))
        for word in ("raise", "lower"):
            for lot in ((0, 1), (), None):
                self.check_paper("falls", 0, lets_table, PAIR, falling, (word, lot))
            for bad in wrong_lots(PAIR) + ((),):
                self.check_paper("lot", 1, lets_table, PAIR, ones, (word, bad))
            # Unlike awards.
            self.check_paper("lot", 1, lets_table, PAIR, ((2, 1), (1, 1)), (word, (0, 1)))
        # A case is missing.
        self.check_paper("lot", 1, lets_table, PAIR, ones, ("lower", (0,)))
        self.check_paper("lot", 1, lets_table, PAIR, ((0, 1), (0, 1)), ("raise", (1,)))
        # Cases of another award are not wanted.
        self.same(lets_table(PAIR, ((2, 1), (1, 1)), ("lower", (0,))), False)
        self.same(lets_table(PAIR, ((1, 2), (1, 3)), ("raise", (1,))), False)
        self.check_paper("pull", 1, lets_table, PAIR, ones, ("raise", (0, 1)))
        self.check_paper("pull", 1, lets_table, PAIR, ones, ("lower", (1,)))
        self.check_paper("pull", 1, lets_table, PAIR, HALVES, ("raise", (0, 1)))
        self.check_paper("pull", 1, lets_table, PAIR, HALVES, ("lower", (0, 1)))
        self.same(lets_table(PAIR, ones, ("lower", (0, 1))), False)
        self.same(lets_table(PAIR, ((0, 1), (0, 1)), ("raise", (0, 1))), False)

    def test_falls(self):
        falling = ((0, 1), (1, 1))
        self.same(lets_table(PAIR, falling, ("falls", 0, 1)), False)
        for here, there in ((1, 0), (0, 0), (1, 1), (0, 2), (-1, 1), (False, 1), (0, True), (None, None), ("0", 1), ((0,), 1)):
            self.check_paper("pair", -1, lets_table, PAIR, falling, ("falls", here, there))
        for table in (HALVES, ((1, 1), (0, 1))):
            self.check_paper("pair", -1, lets_table, PAIR, table, ("falls", 0, 1))
        self.check_paper("pair", -1, lets_table, SEEN, falling, ("falls", 0, 1))
        # Any pair on which it falls, not the first one alone.
        table = ((0, 1), (1, 1), (2, 1))
        for pair in ((0, 1), (0, 2), (1, 2)):
            self.same(lets_table(CHAIN, table, ("falls",) + pair), False)
        self.check_paper("pair", -1, lets_table, CHAIN, ((0, 1), (1, 1), (1, 1)), ("falls", 1, 2))

    def test_parameters(self):
        for court in (PAIR, MIXED):
            good = {"court": court, "table": best_table(court)}
            self.check_parameters(table_paper, good, {"table": wrong_tables(court)})
            paper = table_paper(court, best_table(court))
            self.check_parameters(lets_table, {**good, "thing": paper}, {"table": wrong_tables(court)})
            for bad in wrong_tables(court):
                self.refuses("table", lets_table, court, bad, None)


def dealings_of(court):
    """Some dealings of the court."""
    own = dealing_of(court)
    if len(support.edges(court, best_table(court))) > 8:
        return [own]
    found = [support.as_dealing(one) for one in support.corners(court, best_table(court))][:3]
    return [own] + found + [mixed(court, one, own, (1, 3)) for one in found]


class CarriedTest(Case):
    def test_givers_and_takers(self):
        for court in COURTS:
            pulls = support.pulls(court, [value(award) for award in best_table(court)])
            self.same(givers_of(court), tuple(k for k, pull in enumerate(pulls) if pull > 0))
            self.same(takers_of(court), tuple(k for k, pull in enumerate(pulls) if pull < 0))
            for dealing in dealings_of(court):
                self.assertEqual({triple[0] for triple in dealing}, set(givers_of(court)))
                self.assertEqual({triple[1] for triple in dealing}, set(takers_of(court)))
        self.same((givers_of(COIN), takers_of(COIN)), ((0, 1), (2,)))
        self.same((givers_of(COPY), takers_of(COPY)), ((), ()))

    def test_hung_lots(self):
        for court in COURTS:
            for dealing in dealings_of(court):
                self.same(hung_lots(court, dealing), components(len(court), [triple[:2] for triple in dealing]))
        self.same(hung_lots(FOUR, ROUND), ((0, 1, 2, 3),))
        self.same(hung_lots(SEEN, ()), ((0,), (1,)))

    def test_merged_dealing(self):
        changed = 0
        for court in COURTS:
            together, places = merged(court)
            for dealing in dealings_of(court):
                amounts = {}
                for d, c, amount in dealing:
                    pair = (places[d], places[c])
                    amounts[pair] = amounts.get(pair, 0) + value(amount)
                result = merged_dealing(court, dealing)
                self.same(result, support.as_dealing(amounts))
                self.assertTrue(support.is_dealing(together, best_table(together), result))
                changed += len(result) < len(dealing)
        self.assertGreater(changed, 0)

    def test_merged_into_another_sequence(self):
        # Cases 0 and 3 are alike, so that 3 becomes 0.
        court = (FOUR[2], FOUR[0], FOUR[0], FOUR[2])
        self.same(merged_dealing(court, ((1, 0, (1, 2)), (2, 3, (1, 2)))), ((1, 0, (1, 1)),))

    def test_turned_dealing(self):
        for court in COURTS:
            for dealing in dealings_of(court):
                result = turned_dealing(court, dealing)
                self.same(result, tuple(sorted((c, d, amount) for d, c, amount in dealing)))
                self.assertTrue(support.is_dealing(turned(court), best_table(turned(court)), result))
                self.same(turned_dealing(turned(court), result), dealing)
        self.same(turned_dealing(FOUR, ROUND), ((2, 0, (1, 4)), (2, 1, (1, 4)), (3, 0, (1, 4)), (3, 1, (1, 4))))

    def test_refusals(self):
        for court, dealing in ((PAIR, DEALT), (FOUR, ROUND), (SEEN, ()), (MIXED, dealing_of(MIXED))):
            for function in (hung_lots, merged_dealing, turned_dealing):
                self.check_parameters(function, {"court": court, "dealing": dealing}, {"dealing": altered(dealing)})
        self.same(quotient(sum(value(triple[2]) for triple in dealing_of(HIGH))), (2, 1))
