"""[83] dice, [84] letters."""

import random
from fractions import Fraction

from oneistrue.dealing import dealing_of
from oneistrue.dice import dice_counts, is_die, told_by
from oneistrue.hearings import hearing_of
from oneistrue.letters import letter
from oneistrue.merging import turned
from tests import support
from tests.support import (
    ANYTHING, COIN, MIXED, PAIR, SEEN, WRONG_POSITIVES, WRONG_QUOTIENTS, WRONG_SIDES, Case, quotient, value, wrong_cases,
)
from tests.test_outcomes import hearings, wrong_hearings

WRONG_ROWS = (
    None, True, 0, "", "ab", (), [], [(1, 1)], (1, 1), ((1, 2),), ((1, 2), (1, 3)), ((2, 3), (2, 3)), ((3, 2), (-1, 2)), ((0, 1),),
    ((-1, 1), (2, 1)), ((1, 1), (1, 1)), ((1, 1), None), (None, (1, 1)), ((2, 2),), ((True, 1),), ((1, True),), ([1, 1],),
    ((1, 2), [1, 2]), ((0, 1), (0, 1)), ((1, 1), 0), (((1, 1),),),
)
WRONG_DICE = WRONG_QUOTIENTS + ((1, 1), (2, 1), (-1, 2), (-1, 1), (3, 2), (10 ** 15 + 1, 10 ** 15))


def made_chances(dice):
    weights = [dice.choice((0, 0, 1, 1, 2, 5)) for _ in range(dice.randint(1, 8))]
    if not any(weights):
        weights[dice.randrange(len(weights))] = 1
    return tuple(quotient(Fraction(weight, sum(weights))) for weight in weights)


class DiceTest(Case):
    def test_is_die(self):
        for die in ((0, 1), (1, 2), (1, 3), (2, 3), (10 ** 15 - 1, 10 ** 15), (1, 10 ** 15)):
            self.same(is_die(die), True)
            self.same(is_die(thing=die), True)
        for thing in WRONG_DICE:
            self.same(is_die(thing), False)
        for thing in ANYTHING:
            self.same(is_die(thing), thing in ((0, 1), (1, 2)) and repr(thing) in ("(0, 1)", "(1, 2)"))

    def test_told_by(self):
        dice = random.Random(311)
        told = set()
        for _ in range(200):
            row = made_chances(dice)
            sums = [sum((value(chance) for chance in row[:at + 1]), Fraction(0)) for at in range(len(row))]
            bounds = [one for one in sums if one < 1]
            numbers = [Fraction(0), Fraction(99, 100)] + bounds + [one - Fraction(1, 10 ** 9) for one in sums if one > 0]
            for die in numbers + [one + Fraction(1, 10 ** 9) for one in bounds]:
                expected = min(at for at, one in enumerate(sums) if one > die)
                self.same(told_by(row, quotient(die)), expected)
                self.same(told_by(die=quotient(die), row=row), expected)
                self.assertGreater(row[expected][0], 0)
                told.add(expected)
        self.assertEqual(told, set(range(8)))

    def test_told_by_hand(self):
        row = ((1, 2), (0, 1), (1, 2))
        self.same([told_by(row, die) for die in ((0, 1), (1, 3), (1, 2), (2, 3))], [0, 0, 2, 2])
        self.same([told_by(((0, 1), (1, 1)), die) for die in ((0, 1), (9, 10))], [1, 1])
        self.same(told_by(((1, 1),), (999, 1000)), 0)
        self.same(told_by(((1, 3), (1, 3), (1, 3)), (1, 3)), 1)
        self.same(told_by(((1, 3), (1, 3), (1, 3)), (2, 3)), 2)

    def test_counts(self):
        dice = random.Random(312)
        for _ in range(200):
            row = made_chances(dice)
            for many in {1, 2, dice.randint(1, 60), 60}:
                told = [told_by(row, quotient(Fraction(at, many))) for at in range(many)]
                expected = tuple(told.count(at) for at in range(len(row)))
                self.same(dice_counts(row, many), expected)
                self.same(dice_counts(many=many, row=row), expected)
            whole = 1
            for _, bottom in row:
                whole *= bottom
            for many in (whole, 2 * whole):
                # A multiple of all bottoms.
                if many <= 5000:
                    self.same(dice_counts(row, many), tuple(int(many * value(chance)) for chance in row))
        self.same(dice_counts(((1, 2), (1, 2)), 3), (2, 1))
        self.same(dice_counts(((1, 3), (0, 1), (2, 3)), 1), (1, 0, 0))
        self.same(dice_counts(((0, 1), (1, 1)), 7), (0, 7))

    def test_refusals(self):
        row = ((1, 2), (0, 1), (1, 2))
        self.check_parameters(told_by, {"row": row, "die": (1, 2)}, {"row": WRONG_ROWS, "die": WRONG_DICE})
        self.check_parameters(dice_counts, {"row": row, "many": 3}, {"row": WRONG_ROWS, "many": WRONG_POSITIVES})


def expected_letter(court, hearing, side, plea, reply):
    """By the words of [84]."""
    sides = ("claimant", "defendant")
    stories = (plea, reply)
    top, bottom = hearing[2][plea][reply]
    rows = ["To the " + sides[side] + "."]
    rows.append(f"You told case {stories[side]}, the {sides[1 - side]} told case {stories[1 - side]}.")
    rows.append(("You get ", "You pay ")[side] + f"{top}/{bottom}.")
    weights = support.pair_weights(court, hearing, plea, reply)
    if any(weights):
        shares = [(here, Fraction(weight, sum(weights))) for here, weight in enumerate(weights) if weight]
        rows.append("Belief: " + ", ".join(f"{here} {share.numerator}/{share.denominator}" for here, share in shares) + ".")
    else:
        rows.append("Nobody tells this; it could be told in " + ", ".join(map(str, support.tellers(court, plea, reply))) + ".")
    return "\n".join(rows)


class LetterTest(Case):
    def test_by_definition(self):
        told = set()
        for court, hearing in hearings(313):
            for plea, reply in support.tellable(court):
                for side in (0, 1):
                    expected = expected_letter(court, hearing, side, plea, reply)
                    self.same(letter(court, hearing, side, plea, reply), expected)
                    self.same(letter(reply=reply, plea=plea, side=side, hearing=hearing, court=court), expected)
                told.add(("Belief" in expected, expected.count(",") > 2, hearing[2][plea][reply][0] < 0))
        self.assertEqual(len(told), 8)

    def test_by_hand(self):
        said = hearing_of(PAIR, dealing_of(PAIR))
        self.same(
            letter(PAIR, said, 1, 1, 0),
            "To the defendant.\nYou told case 0, the claimant told case 1.\nYou pay 1/2.\nBelief: 0 1/2, 1 1/2.",
        )
        self.same(
            letter(PAIR, said, 0, 1, 0),
            "To the claimant.\nYou told case 1, the defendant told case 0.\nYou get 1/2.\nBelief: 0 1/2, 1 1/2.",
        )
        self.same(
            letter(PAIR, said, 0, 0, 1),
            "To the claimant.\nYou told case 0, the defendant told case 1.\nYou get 0/1.\nNobody tells this; it could be told in 0.",
        )
        self.same(
            letter(PAIR, said, 1, 1, 1),
            "To the defendant.\nYou told case 1, the claimant told case 1.\nYou pay 1/1.\n"
            "Nobody tells this; it could be told in 0, 1.",
        )
        other = turned(PAIR)
        self.same(
            letter(other, hearing_of(other, dealing_of(other)), 0, 0, 1),
            "To the claimant.\nYou told case 0, the defendant told case 1.\nYou get -1/2.\nBelief: 0 1/2, 1 1/2.",
        )
        true = hearing_of(SEEN, ())
        self.same(letter(SEEN, true, 0, 1, 1).split("\n")[3], "Belief: 1 1/1.")

    def test_refusals(self):
        for court in (PAIR, COIN, MIXED):
            good = {"court": court, "hearing": hearing_of(court, dealing_of(court)), "side": 0, "plea": 0, "reply": 0}
            cases = wrong_cases(court)
            wrong = {"hearing": wrong_hearings(court), "side": WRONG_SIDES, "plea": cases, "reply": cases}
            self.check_parameters(letter, good, wrong)
        true = hearing_of(SEEN, ())
        for side in (0, 1):
            self.refuses("reply", letter, SEEN, true, side, 0, 1)
            self.refuses("reply", letter, court=SEEN, hearing=true, side=side, plea=1, reply=0)
        self.refuses("plea", letter, SEEN, true, 0, 2, 0)
        self.refuses("side", letter, SEEN, true, 2, 0, 1)
