"""[20] folders."""

import random

from oneistrue.courtchecker import is_court
from oneistrue.folders import cases_of, court_of, lets_folder
from tests import support
from tests.support import ANYTHING, STEP, Case
from tests.test_conditions import WRONG as WRONG_CONDITIONS
from tests.test_conditions import all_marks, by_definition, made_condition

FACTS = ((3, 1), (1, 2, 5))
ALWAYS = ((),)
FINE = ("weight", 2, ALWAYS)
VALUES = {
    "out": ((0,), (None, False, True, 1, -1, "0", (), (0,), (0, 1))),
    "weight": ((1, 60), support.WRONG_POSITIVES),
    "up": ((1, 60), support.WRONG_POSITIVES),
    "down": ((1, 60), support.WRONG_POSITIVES),
    "right": (((0, 1), (-1, 2)), support.WRONG_QUOTIENTS),
    "sight": ((0, 7), support.WRONG_NUMBERS),
}
for WORD in ("claimant", "defendant"):
    VALUES[WORD] = (
        ((0, 0), (3, 1), (1, 3)),
        (None, 0, "0:1", (), (0,), (0, 1, 2), [0, 1], (0, -1), (-1, 0), (True, 0), (0, False), ("0", 1), ((0, 1),)),
    )


def line_of(word, value):
    # An out line must not leave the folder without a case.
    return (word, value, () if word == "out" else ALWAYS)


def wrong_lines():
    """Pairs (word of the fault, line)."""
    for line in (None, True, 0, "", (), FINE[:2], FINE + (0,), list(FINE), "abc", (FINE,)):
        yield "line", line
    for word in (None, True, 0, "", "Out", "weights", "facts", "out ", ("out",), ["out"], "claimant0"):
        yield "word", (word, 0, ALWAYS)
    for word, (_, wrong) in VALUES.items():
        for bad in wrong:
            yield "value", (word, bad, ALWAYS)
    for bad in WRONG_CONDITIONS:
        yield "condition", ("weight", 2, bad)


def by_lines(folder):
    """The court of the folder, by the definition."""
    facts, lines = folder
    court = []
    for marks in all_marks([len(fact) for fact in facts]):
        met = [(word, value) for word, value, condition in lines if by_definition(condition, marks)]
        if any(word == "out" for word, _ in met):
            continue
        weight, parts, grades = 1, {"right": (0, 1), "up": 1, "down": 1, "sight": 0}, ({}, {})
        for fact, mark in zip(facts, marks):
            weight *= fact[mark]
        for word, value in met:
            if word == "weight":
                weight *= value
            elif word in ("claimant", "defendant"):
                grades[word == "defendant"][value[0]] = value[1]
            else:
                parts[word] = value
        holdings = []
        for side, word in enumerate(("claimant", "defendant")):
            many = max([value[0] for name, value, _ in lines if name == word], default=-1) + 1
            holdings.append(tuple(grades[side].get(k, 0) for k in range(many)))
        court.append((weight, parts["right"], (parts["up"], parts["down"]), tuple(holdings), parts["sight"]))
    return tuple(court)


def made_folder(dice):
    facts = tuple(
        tuple(dice.randint(1, 5) for _ in range(dice.randint(1, 3))) for _ in range(dice.randint(1, 3))
    )
    counts = [len(fact) for fact in facts]
    lines = []
    for _ in range(dice.randint(0, 8)):
        word = dice.choice(sorted(VALUES))
        if word in ("claimant", "defendant"):
            value = (dice.randint(0, 2), dice.randint(0, 3))
        else:
            value = dice.choice(VALUES[word][0])
        lines.append((word, value, made_condition(dice, counts)))
    return (facts, tuple(lines))


def made_folders(many, seed):
    dice = random.Random(seed)
    folders = [made_folder(dice) for _ in range(many)]
    return [folder for folder in folders if by_lines(folder) != ()]


class LetsFolderTest(Case):
    def test_lets(self):
        self.same(lets_folder(STEP), 3)
        self.same(lets_folder(thing=((), ())), 1)
        self.same(lets_folder((FACTS, ())), 6)
        for folder in made_folders(100, 1):
            self.same(lets_folder(folder), len(by_lines(folder)))

    def test_each_value(self):
        for word, (good, _) in VALUES.items():
            for value in good:
                self.same(lets_folder((FACTS, (line_of(word, value),))), 6)

    def test_shape(self):
        for bad in (None, True, 0, "", "ab", (), (FACTS,), (FACTS, (), ()), [FACTS, ()]):
            self.check_paper("shape", -1, lets_folder, bad)

    def test_facts(self):
        wrong = [None, True, 0, "", [], [(1,)], (1,), (None,), ((),), ([1],), ("1",), ((1,), ()), ((1,), 1)]
        wrong += [((1, bad),) for bad in support.WRONG_POSITIVES] + [((1,), (bad, 1)) for bad in support.WRONG_POSITIVES]
        for facts in wrong:
            self.check_paper("facts", 0, lets_folder, (facts, ()))
            self.check_paper("facts", 0, lets_folder, (facts, None))

    def test_size(self):
        self.same(lets_folder((((1,) * 64,), ())), 64)
        self.same(lets_folder((((1, 1),) * 6, ())), 64)
        self.same(lets_folder((((1,),) * 50, ())), 1)
        for facts in (((1,) * 65,), ((1, 1),) * 7, ((1,) * 13, (1,) * 5), ((1,) * 4000, (1,) * 4000)):
            self.check_paper("size", 0, lets_folder, (facts, ()))
            self.check_paper("size", 0, lets_folder, (facts, None))

    def test_lines(self):
        for bad in (None, True, 0, "", [], [FINE], "out"):
            self.check_paper("lines", 1, lets_folder, (FACTS, bad))

    def test_each_word_at_each_place(self):
        for word, bad in wrong_lines():
            for at in range(3):
                lines = (FINE,) * at + (bad,) + (FINE,) * (2 - at)
                with self.subTest(word=word, line=bad, at=at):
                    self.same(lets_folder((((1, 1), (1, 1, 1)), (FINE,))), 6)
                    self.check_paper(word, at, lets_folder, (((1, 1), (1, 1, 1)), lines))

    def test_which_of_two_faults(self):
        bars = ("out", 0, ALWAYS)
        self.check_paper("line", 0, lets_folder, (FACTS, (None, ("x", 0, ALWAYS))))
        self.check_paper("condition", 0, lets_folder, (FACTS, (("up", 1, None), None)))
        self.check_paper("word", 1, lets_folder, (FACTS, (FINE, ("x", None, None))))
        self.check_paper("value", 1, lets_folder, (FACTS, (FINE, ("right", (2, 4), None), None)))
        self.check_paper("condition", 2, lets_folder, (FACTS, (FINE, bars, ("up", 1, None))))
        self.check_paper("facts", 0, lets_folder, ([(1,)], [None]))

    def test_no_case(self):
        self.check_paper("none", -1, lets_folder, (FACTS, (("out", 0, ALWAYS),)))
        self.check_paper("none", -1, lets_folder, ((), (FINE, ("out", 0, ALWAYS))))
        halves = (("out", 0, (((0, True, 0),),)), ("out", 0, (((0, False, 0),),)))
        self.check_paper("none", -1, lets_folder, (((1, 1),), halves))
        self.same(lets_folder((((1, 1),), halves[:1])), 1)
        self.same(lets_folder((FACTS, (("out", 0, ()),))), 6)

    def test_any_value(self):
        for thing in ANYTHING:
            if isinstance(thing, tuple) and len(thing) == 2:
                self.check_paper("facts", 0, lets_folder, thing)
            else:
                self.check_paper("shape", -1, lets_folder, thing)


class CourtOfTest(Case):
    def test_by_definition(self):
        for folder in made_folders(300, 2):
            court = by_lines(folder)
            self.same(court_of(folder), court)
            self.same(is_court(court), True)
            self.same(len(cases_of(folder)), len(court))

    def test_cases(self):
        self.same(cases_of(STEP), ((0, 0), (0, 1), (1, 0)))
        self.same(cases_of((FACTS, ())), tuple(all_marks((2, 3))))
        self.same(cases_of(((), ())), ((),))
        bars = (("out", 0, (((0, True, 0), (1, True, 2)), ((1, True, 0),))), ("out", 0, (((0, True, 1), (1, True, 1)),)))
        self.same(cases_of((FACTS, bars)), ((0, 1), (1, 2)))

    def test_without_lines(self):
        plain = (0, 1), (1, 1), ((), ()), 0
        self.same(court_of(((), ())), ((1,) + plain,))
        self.same(court_of((((3, 1), (2, 5)), ())), ((6,) + plain, (15,) + plain, (2,) + plain, (5,) + plain))

    def test_the_last_line_that_holds_tells(self):
        for word, at, values in (
            ("right", lambda case: case[1], ((1, 2), (5, 1), (7, 1))),
            ("up", lambda case: case[2][0], (2, 5, 7)),
            ("down", lambda case: case[2][1], (2, 5, 7)),
            ("sight", lambda case: case[4], (2, 5, 7)),
            ("claimant", lambda case: case[3][0], ((0, 1), (0, 2), (0, 3))),
            ("defendant", lambda case: case[3][1], ((0, 1), (0, 2), (0, 3))),
        ):
            lines = (
                (word, values[0], ALWAYS), (word, values[1], (((0, True, 1),),)), (word, values[2], (((0, True, 2),),)),
                (word, values[0], ()),
            )
            told = [at(case) for case in court_of((((1, 1, 1),), lines))]
            grades = word in ("claimant", "defendant")
            self.same(told, [(value[1],) if grades else value for value in values])

    def test_without_a_line_that_holds(self):
        lines = tuple((word, VALUES[word][0][1], ()) for word in ("right", "up", "down", "sight"))
        self.same(court_of((((1, 1),), lines)), court_of((((1, 1),), ())))

    def test_weights_multiply(self):
        lines = (("weight", 2, ALWAYS), ("weight", 3, (((0, True, 1),),)), ("weight", 5, (((0, False, 1),),)))
        self.same([case[0] for case in court_of((((1, 7),), lines))], [10, 42])

    def test_a_line_that_never_holds_adds_its_exhibits(self):
        lines = (("claimant", (2, 1), ()), ("defendant", (0, 3), (((0, True, 1), (0, True, 0)),)))
        self.same([case[3] for case in court_of((((1, 1),), lines))], [((0, 0, 0), (0,))] * 2)
        self.same(court_of((((1,),), (("claimant", (0, 0), ALWAYS),)))[0][3], ((0,), ()))

    def test_each_grade_has_its_own_last_line(self):
        lines = (("claimant", (1, 2), ALWAYS), ("claimant", (0, 1), ALWAYS), ("defendant", (0, 3), ALWAYS))
        self.same(court_of((((1,),), lines))[0][3], ((1, 2), (3,)))
        lines = lines + (("claimant", (1, 0), ALWAYS),)
        self.same(court_of((((1,),), lines))[0][3], ((1, 0), (3,)))
