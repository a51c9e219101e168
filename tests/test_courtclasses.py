"""[22] Court and court_from."""

from oneistrue.courtclasses import Court, court_from
from oneistrue.courts import kept, rights_of
from oneistrue.courttexts import court_text, read_court
from oneistrue.merging import turned
from tests.support import (
    ANYTHING, CHAIN, COIN, COPY, EXAMPLES, MIXED, PAIR, SEEN, WRONG_COURTS, Case, all_lots, made_courts, wrong_cases,
    wrong_lots,
)
from tests.test_texts import NO_STRINGS


class CourtTest(Case):
    def test_no_court(self):
        for bad in WRONG_COURTS + (Court(PAIR),):
            self.refuses("court", Court, bad)
            self.refuses("court", Court, court=bad)

    def test_properties(self):
        for court in EXAMPLES + tuple(made_courts(20)):
            box = Court(court)
            self.same(box.inner, court)
            self.same(box.weights, tuple(case[0] for case in court))
            self.same(box.rights, rights_of(court))
            self.same(box.as_text, court_text(court))
            self.same(Court(court=court).inner, court)

    def test_properties_are_not_assigned(self):
        for name in ("inner", "weights", "rights", "as_text"):
            self.assertIsInstance(vars(Court)[name], property)
            with self.assertRaises(AttributeError):
                setattr(Court(PAIR), name, 0)

    def test_len_and_iteration(self):
        for court in EXAMPLES:
            self.same(len(Court(court)), len(court))
            self.same(list(Court(court)), list(court))
            self.same([case for case in Court(court)], list(court))

    def test_in(self):
        for court in EXAMPLES:
            for case in court:
                self.same(case in Court(court), True)
        self.same(COPY[0] in Court(PAIR), False)
        self.same(PAIR in Court(PAIR), False)
        self.same(list(PAIR[0]) in Court(PAIR), False)
        for thing in ANYTHING:
            self.same(thing in Court(COIN), False)

    def test_in_true_is_not_one(self):
        weight, right, factors, holdings, sight = PAIR[1]
        box = Court(PAIR)
        self.same(PAIR[1] in box, True)
        for wrong in (
            (True, right, factors, holdings, sight), (weight, (True, 1), factors, holdings, sight),
            (weight, (1, True), factors, holdings, sight), (weight, right, (True, 1), holdings, sight),
            (weight, right, (1, True), holdings, sight), (weight, right, factors, ((False,), ()), sight),
            (weight, right, factors, holdings, False), (weight, right, factors, [(0,), ()], sight),
        ):
            self.same(wrong in box, False)
            self.same(wrong not in box, True)

    def test_equality(self):
        self.same(Court(PAIR) == Court(PAIR), True)
        self.same(Court(PAIR) != Court(PAIR), False)
        self.same(Court(PAIR) == Court(read_court(court_text(PAIR))), True)
        for other in (Court(COIN), Court(COPY), Court(PAIR[::-1]), Court(PAIR[:1])):
            self.same(Court(PAIR) == other, False)
            self.same(Court(PAIR) != other, True)
        for thing in ANYTHING + (PAIR, list(PAIR)):
            self.same(Court(PAIR) == thing, False)
            self.same(thing == Court(PAIR), False)
            self.same(Court(PAIR) != thing, True)

    def test_the_case_here(self):
        for court in (PAIR, MIXED):
            box = Court(court)
            for here, case in enumerate(court):
                self.same(box[here], case)
            for bad in wrong_cases(court):
                self.refuses("here", lambda: box[bad])

    def test_sum(self):
        both = Court(PAIR) + Court(CHAIN)
        self.assertIsInstance(both, Court)
        self.same(both.inner, PAIR + CHAIN)
        self.same((Court(CHAIN) + Court(PAIR)).inner, CHAIN + PAIR)
        self.same((Court(SEEN) + Court(SEEN)).inner, SEEN + SEEN)
        self.same((Court(PAIR[:1]) + Court(CHAIN[:1])).inner, PAIR[:1] + CHAIN[:1])
        self.same((Court(CHAIN) + Court(PAIR) + Court(PAIR)).inner, CHAIN + PAIR + PAIR)

    def test_sum_refusals(self):
        box = Court(PAIR)
        for bad in ANYTHING + (Court(COIN), Court(COPY), Court(SEEN), Court(turned(PAIR))):
            self.refuses("other", lambda: box + bad)
        self.refuses("other", lambda: Court(COPY) + box)
        self.same(box.inner, PAIR)

    def test_having(self):
        for lot in all_lots(len(MIXED))[1:]:
            result = Court(MIXED).having(lot)
            self.assertIsInstance(result, Court)
            self.same(result.inner, kept(MIXED, lot))
            self.same(Court(MIXED).having(lot=lot) == result, True)
        for bad in wrong_lots(MIXED) + ((),):
            self.refuses("lot", Court(MIXED).having, bad)
            self.refuses("lot", Court(MIXED).having, lot=bad)

    def test_turning(self):
        for court in EXAMPLES:
            result = Court(court).turning()
            self.assertIsInstance(result, Court)
            self.same(result.inner, turned(court))
            self.same(result.turning() == Court(court), True)

    def test_methods_stand_in_the_class(self):
        for name in ("having", "turning", "__len__", "__iter__", "__contains__", "__eq__", "__getitem__", "__add__"):
            self.assertIn(name, vars(Court))


class CourtFromTest(Case):
    def test_read(self):
        for court in EXAMPLES:
            result = court_from(court_text(court))
            self.assertIsInstance(result, Court)
            self.same(result.inner, court)
            self.same(court_from(text=result.as_text) == result, True)

    def test_errors(self):
        for bad in NO_STRINGS:
            self.refuses("text", court_from, bad)
        self.raises("InvalidText", {"line": 0, "field": 0}, court_from, "")
        self.raises("InvalidText", {"line": 2, "field": 0}, court_from, court_text(PAIR) + "\n")
        self.raises("InvalidText", {"line": 1, "field": 1}, court_from, "1 0/1 1,1 - - 0\n1 2/2 1,1 - - 0")
        self.raises("InvalidRow", {"row": 1}, court_from, "1 0/1 1,1 - - 0\n1 0/1 1,1 0 - 0")
