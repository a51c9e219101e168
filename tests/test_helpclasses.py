"""[82] Help."""

from itertools import combinations

from oneistrue.cheapest import cheapest_facts
from oneistrue.courtclasses import Court
from oneistrue.helpclasses import Help
from oneistrue.helps import opening_help
from oneistrue.sheets import opened
from oneistrue.spans import right_span
from tests.support import ANYTHING, COIN, MIXED, PAIR, SEEN, WRONG_COURTS, WRONG_NUMBERS, Case
from tests.test_facts import FILM, bad, fact_sets, left, some_sheets, wrong_facts, wrong_sheets


class HelpTest(Case):
    def test_no_court_or_no_sheet(self):
        for wrong in WRONG_COURTS + (Court(PAIR), Help(COIN, FILM)):
            for sheet in (((), ()), None):
                self.refuses("court", Help, wrong, sheet)
                self.refuses("court", Help, sheet=sheet, court=wrong)
        for court in (PAIR, COIN, MIXED):
            for wrong in wrong_sheets(court) + (Help(COIN, FILM),):
                self.refuses("sheet", Help, court, wrong)
                self.refuses("sheet", Help, sheet=wrong, court=court)

    def test_properties(self):
        for court, sheet in some_sheets(301):
            one = Help(court, sheet)
            self.same(one.inner, (court, sheet))
            self.same(one.bad, tuple(bad(court)))
            self.same(len(one), len(sheet[0]))
            parting = [facts for facts in fact_sets(sheet) if not left(court, sheet, facts)]
            if parting:
                self.assertIn(one.fewest, [facts for facts in parting if len(facts) == len(parting[0])])
            else:
                self.same(one.fewest, None)
            self.same(one.spans_of_rights, tuple(right_span(court, here) for here in range(len(court))))
            self.same(Help(sheet=sheet, court=court) == one, True)
        for name in ("inner", "bad", "fewest", "spans_of_rights"):
            self.assertIsInstance(vars(Help)[name], property)
            with self.assertRaises(AttributeError):
                setattr(Help(COIN, FILM), name, 0)

    def test_equality(self):
        one = Help(COIN, FILM)
        heavy = tuple((2,) + case[1:] for case in COIN)
        self.same(one == Help(COIN, FILM), True)
        self.same(one != Help(COIN, FILM), False)
        others = (Help(COIN, FILM[::-1]), Help(heavy, FILM), Help(COIN, ((),) * 3), Help(PAIR, ((), ())))
        for thing in others + ANYTHING + ((COIN, FILM), FILM, Court(COIN)):
            self.same(one == thing, False)
            self.same(thing == one, False)
            self.same(one != thing, True)

    def test_methods(self):
        for court, sheet in some_sheets(302)[::2]:
            one, many = Help(court, sheet), len(sheet[0])
            for size in (0, 1, many):
                for facts in list(combinations(range(many), size))[:2]:
                    self.same(one.seen(facts), opened(court, sheet, facts))
                    self.same(one.seen(facts=facts), opened(court, sheet, facts))
                    self.same(one.gain(facts), opening_help(court, sheet, facts))
                    self.same(one.gain(facts=facts), opening_help(court, sheet, facts))
            costs = tuple(range(many, 0, -1))
            self.same(one.cheapest(costs), cheapest_facts(court, sheet, costs))
            self.same(one.cheapest(costs=costs), cheapest_facts(court, sheet, costs))
            self.same(one.inner, (court, sheet))

    def test_by_hand(self):
        film = Help(COIN, FILM)
        self.same((film.bad, film.fewest, len(film)), (((0, 2), (1, 2)), (0, 1), 2))
        self.same((film.gain((1,)), film.cheapest((4, 1))), ((3, 2), (5, (0, 1))))
        self.same(film.spans_of_rights[2], (((0, 1), True), None))
        self.same(Help(SEEN, ((), ())).fewest, ())
        self.same(Help(PAIR, ((), ())).fewest, None)

    def test_refusals(self):
        film = Help(COIN, FILM)
        for method in (film.seen, film.gain):
            self.check_parameters(method, {"facts": (0, 1)}, {"facts": wrong_facts(2)})
        costs = (None, True, 0, "", (), (0,), (0, 1, 2), [0, 1], "01") + tuple((one, 0) for one in WRONG_NUMBERS)
        self.check_parameters(film.cheapest, {"costs": (4, 1)}, {"costs": costs})
