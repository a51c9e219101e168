"""What the tests share: examples, wrong values, made courts, and plain searches by the definitions."""

import random
import unittest
from fractions import Fraction

from oneistrue.errors import CourtError, NotUsable

PAIR = ((1, (0, 1), (1, 1), ((1,), ()), 0), (1, (1, 1), (1, 1), ((0,), ()), 0))
COPY = ((1, (0, 1), (1, 1), ((1,), (1,)), 0), (1, (1, 1), (1, 1), ((0,), (0,)), 0))
SEEN = ((1, (0, 1), (1, 1), ((), ()), 0), (1, (1, 1), (1, 1), ((), ()), 1))
COIN = (
    (1, (0, 1), (1, 1), ((1, 0), ()), 0),
    (1, (0, 1), (1, 1), ((0, 1), ()), 0),
    (1, (3, 1), (1, 1), ((0, 0), ()), 0),
)
CHAIN = (
    (1, (0, 1), (1, 1), ((2,), ()), 0),
    (1, (3, 1), (1, 1), ((1,), ()), 0),
    (1, (1, 1), (1, 1), ((0,), ()), 0),
)
STEEP = ((1, (0, 1), (2, 1), ((1,), ()), 0), (1, (1, 1), (1, 1), ((0,), ()), 0))
FLAT = (SEEN[0], (1, (0, 1), (1, 1), ((), ()), 1))
STEP = (
    ((3, 1), (1, 1)),
    (("out", 0, (((0, True, 1), (1, True, 1)),)), ("claimant", (0, 2), (((0, True, 0),),))),
)
# Two sights, exhibits of both sides, a tie (cases 1 and 2), unlike factors.
MIXED = (
    (2, (1, 2), (1, 3), ((1, 2), (0,)), 5),
    (1, (-3, 1), (2, 1), ((0, 1), (1,)), 5),
    (4, (7, 3), (1, 1), ((0, 1), (1,)), 5),
    (1, (0, 1), (5, 2), ((1, 2), (0,)), 0),
)
FOUR = SEEN[:1] + SEEN[:1] + 2 * ((1, (1, 1), (1, 1), ((), ()), 0),)
ROUND = ((0, 2, (1, 4)), (0, 3, (1, 4)), (1, 2, (1, 4)), (1, 3, (1, 4)))
HIGH = ((1, (1, 1), (2, 1), ((1,), ()), 0), (1, (4, 1), (1, 1), ((0,), ()), 0))
EXAMPLES = (PAIR, COPY, SEEN, COIN, CHAIN, STEEP, FLAT, MIXED)

# Values of all sorts; those that fit a parameter are sifted out where it is tested.
ANYTHING = (
    None, True, False, -1, 0, 1, 2, 10 ** 59, "", "0", "1", (), (0,), (1,), (0, 1), (1, 2), (0, 0), (1, 0),
    (True,), (False,), (0, True), (True, 1), (1, True), (0, 1, 2), (-1,), (None,), ("0",), ((0, 1),), [], [0], [0, 1],
    (2, 4), (0, 2), (1, -2), (1, 0), (3, 0), ((0, 1), (1, 1)), [(0, 1), (1, 1)], ((0, 1), (2, 4)), ((0, 1), [1, 1]),
    ((0, 1), (True, 1)), ((0, 1), None), (((((0,),),),),), PAIR, [PAIR[0]], PAIR[0], COIN,
)
WRONG_QUOTIENTS = (
    None, True, 1, 0, "1/2", "", (), (1,), (1, 2, 3), [1, 2], (2, 4), (0, 2), (-2, 2), (1, 0), (0, 0), (1, -2), (0, -1),
    (True, 2), (False, 1), (1, True), ("1", 2), (1, "2"), (None, 1), ((1, 2),), ((1,), 2),
)
WRONG_NUMBERS = (None, True, False, -1, -(10 ** 59), "1", (), (1,), [1])
WRONG_POSITIVES = WRONG_NUMBERS + (0,)
WRONG_INTEGERS = (None, True, False, "1", (), (1,), [1])
WRONG_SIDES = (None, True, False, -1, 2, "0", (), (0,), [0])
WRONG_FACTORS = (None, 1, (), (1,), (1, 1, 1), [1, 1], (0, 1), (1, 0), (-1, 1), (True, 1), (1, True), ("1", 1), ((1, 1),))
WRONG_COURTS = (
    None, True, 0, "", "1 0/1 1,1 - - 0", (), [], list(PAIR), (PAIR[0], None), PAIR[0], (PAIR[0], list(PAIR[1])),
    (PAIR[0], COIN[0]), (PAIR[0], SEEN[0]), (PAIR[0], COPY[1]), ((True,) + PAIR[0][1:],), ((0,) + PAIR[0][1:],),
    (PAIR[0][:4],), (PAIR[0] + (0,),), (PAIR[0][:4] + (False,),), (PAIR[0][:4] + (-1,),),
    ((1, (2, 2), (1, 1), ((), ()), 0),), ((1, (1, 1), (1, 0), ((), ()), 0),), ((1, (1, 1), (1, 1), ((True,), ()), 0),),
    ((1, (1, 1), (1, 1), ((), (), ()), 0),), ((1, (1, 1), (1, 1), [(), ()], 0),), ((1, (1, 1), (1, 1), ([], ()), 0),),
)


def wrong_cases(court):
    return (None, True, False, -1, -len(court), len(court), len(court) + 1, "0", (), (0,), [0], (0, 1))


def wrong_exhibits(court, side):
    many = len(court[0][3][side])
    return (None, True, False, -1, many, many + 1, "0", (), (0,), [0])


def wrong_lots(court):
    many = len(court)
    return (
        None, True, 0, "", "0", [], [0], (many,), (-1,), (0, many), (True,), (False,), ("0",), (None,), (0, 0), ((0,),),
        (1, 0), (0, True), (0, [1]),
    )


def wrong_tables(court):
    good = tuple((0, 1) for _ in court)
    short = [(), good[:-1], good + ((0, 1),), list(good), None, True, 0, "", (0,) * len(court), good[:1] * (len(good) + 1)]
    return tuple(short) + tuple(good[:-1] + (bad,) for bad in WRONG_QUOTIENTS) + tuple(
        (bad,) + good[1:] for bad in WRONG_QUOTIENTS
    )


def altered(dealing):
    """The dealing with one amount, one pair or one form changed, and other values that are no dealing of its court."""
    wrong = [None, True, 0, "", "()", list(dealing), dealing + ((0, 0, (1, 1)),), dealing + (None,), (dealing,)]
    if not dealing:
        return tuple(wrong)
    d, c, amount = dealing[0]
    wrong += [(), dealing[1:], dealing + dealing, dealing[:1] + dealing, ([d, c, amount],) + dealing[1:]]
    for bad in (
        (d, c), (d, c, amount, amount), (c, d, amount), (d, c, (0, 1)), (d, c, (-1, 1)), (d, c, list(amount)), (bool(d), c, amount),
        (d, c, (2 * amount[0], 2 * amount[1])), (d, c, quotient(value(amount) * 2)), (d, c, quotient(value(amount) / 2)),
    ):
        if repr(bad) != repr(dealing[0]):
            wrong.append((bad,) + dealing[1:])
    return tuple(wrong)


class Case(unittest.TestCase):
    """A test case that tells True from 1, and tests refusals."""

    def same(self, one, other):
        self.assertEqual(repr(one), repr(other))

    def raises(self, name, fields, function, *args, **named):
        """The call raises the error of this name with exactly these fields."""
        try:
            result = function(*args, **named)
        except CourtError as error:
            self.assertEqual(type(error).__name__, name, (args, named))
            self.same(vars(error), fields)
        else:
            self.fail(f"{function.__name__}{args}{named} returned {result!r}")

    def refuses(self, word, function, *args, **named):
        self.raises("NotUsable", {"word": word, "at": -1}, function, *args, **named)

    def check_paper(self, word, at, function, *args):
        self.raises("InvalidPaper", {"word": word, "at": at}, function, *args)

    def check_parameters(self, function, good, wrong):
        """good: each parameter, in sequence, with a good value; wrong: some of them with wrong values.

        Each wrong value is told by its parameter's name, alone and with wrong ones behind it.
        """
        function(*good.values())
        function(**good)
        names = list(good)
        for at, name in enumerate(names):
            for bad in wrong.get(name, ()):
                later = {key: wrong[key][0] for key in names[at + 1:] if key in wrong}
                for rest in ({}, later):
                    values = {**good, name: bad, **rest}
                    with self.subTest(function=function.__name__, name=name, values=values):
                        self.refuses(name, function, *values.values())
                        self.refuses(name, function, **values)


def value(quotient):
    return Fraction(*quotient)


def quotient(number):
    number = Fraction(number)
    return (number.numerator, number.denominator)


def is_within(one, other):
    return all(a <= b for a, b in zip(one, other))


def tells(court, side, here, there):
    return court[here][4] == court[there][4] and is_within(court[there][3][side], court[here][3][side])


def is_under(court, d, c):
    return tells(court, 0, d, c) and tells(court, 1, c, d)


def order(court):
    n = len(court)
    return tuple((d, c) for d in range(n) for c in range(n) if d != c and is_under(court, d, c))


def all_lots(size):
    return sorted(tuple(k for k in range(size) if mask >> k & 1) for mask in range(2 ** size))


def is_upper(court, lot):
    return all(d in lot for d, c in order(court) if c in lot)


def is_lower(court, lot):
    return all(c in lot for d, c in order(court) if d in lot)


def uppers(court):
    pairs = order(court)
    return [lot for lot in all_lots(len(court)) if all(d in lot for d, c in pairs if c in lot)]


def lean(case, award):
    gap = award - value(case[1])
    return (case[2][0] if gap >= 0 else case[2][1]) * gap


def wrong(court, table):
    return sum(case[0] * lean(case, a) * (a - value(case[1])) for case, a in zip(court, table))


def strain(court, lot, award):
    return sum((court[k][0] * lean(court[k], award) for k in lot), Fraction(0))


def is_rising(court, table):
    return all(table[d] >= table[c] for d, c in order(court))


def components(size, pairs):
    """The sets that hang together by pairs, found by walking from each number."""
    found = set()
    for start in range(size):
        seen = {start}
        while True:
            more = {b for a, b in pairs if a in seen} | {a for a, b in pairs if b in seen}
            if more <= seen:
                break
            seen |= more
        found.add(tuple(sorted(seen)))
    return tuple(sorted(found))


def made_right(dice):
    return quotient(Fraction(dice.randint(-6, 6), dice.choice((1, 1, 1, 2, 3))))


def made_holding(dice, many, grades):
    return tuple(dice.randint(0, grades) for _ in range(many))


def made_court(dice, size, exhibits=None, sights=None, grades=None):
    """A court of so many cases with exhibits of both sides, ties and two sights, by the dice."""
    ours, theirs = exhibits or (dice.randint(0, 2), dice.randint(0, 2))
    most = grades or dice.choice((1, 1, 2, 3))
    many = sights or dice.choice((1, 1, 2))
    court = []
    for _ in range(size):
        holdings = (made_holding(dice, ours, most), made_holding(dice, theirs, most))
        if court and dice.random() < 0.2:
            holdings = dice.choice(court)[3]
        factors = dice.choice(((1, 1), (1, 1), (dice.randint(1, 4), dice.randint(1, 4))))
        weight = dice.choice((1, 1, dice.randint(1, 6)))
        court.append((weight, made_right(dice), factors, holdings, dice.randrange(many)))
    return tuple(court)


def made_courts(many, least=1, most=5, seed=1):
    dice = random.Random(seed)
    return [made_court(dice, dice.randint(least, most)) for _ in range(many)]


def crowded_courts(many, least=2, most=6, seed=1):
    """Courts in which many cases share a pool, so that most have several dealings."""
    dice = random.Random(seed)
    sides = ((1, 0), (0, 1), (0, 0), (2, 0), (1, 1))
    return [
        made_court(dice, dice.randint(least, most), exhibits=dice.choice(sides), sights=1, grades=1) for _ in range(many)
    ]


def made_table(dice, size):
    return tuple(made_right(dice) for _ in range(size))


def rising_table(dice, court, values=None):
    """A rising table with awards of these values, by the dice."""
    awards = [dice.choice(values) if values else made_right(dice) for _ in court]
    return tuple(
        max([awards[here]] + [awards[c] for d, c in order(court) if d == here], key=value) for here in range(len(court))
    )


def all_alike(seed, size=8):
    dice = random.Random(seed)
    return tuple(
        (dice.randint(1, 9), quotient(Fraction(dice.randint(-9, 9), dice.randint(1, 4))),
         (dice.randint(1, 5), dice.randint(1, 5)), ((1,), (2,)), 3) for _ in range(size)
    )


def unlike(seed, size=8):
    """No case hides under another one: the desk sees each."""
    return tuple(case[:4] + (at,) for at, case in enumerate(all_alike(seed, size)))


def chain(seed, size=8):
    """Each case hides under all behind it."""
    return tuple(case[:3] + (((size - at,), (2,)), 0) for at, case in enumerate(all_alike(seed, size)))


def level(court, lot):
    """The level by halving the span between the right awards, then by the straight line through it."""
    rights = sorted(value(court[k][1]) for k in lot)
    for low, high in zip(rights, rights[1:] + rights[-1:]):
        if strain(court, lot, low) <= 0 <= strain(court, lot, high):
            first, last = strain(court, lot, low), strain(court, lot, high)
            return low if first == last else low - first * (high - low) / (last - first)
    raise AssertionError(lot)


def pulls(court, awards):
    return [case[0] * lean(case, award) for case, award in zip(court, awards)]


def is_dealing(court, table, thing):
    """Whether thing, of the form of a dealing, is one of the rising table."""
    awards = [value(award) for award in table]
    pairs = [triple[:2] for triple in thing]
    if pairs != sorted(set(pairs)) or not all(is_under(court, d, c) and d != c and awards[d] == awards[c] for d, c in pairs):
        return False
    if not all(value(amount) > 0 for _, _, amount in thing):
        return False
    for t, pull in enumerate(pulls(court, awards)):
        given = sum(value(amount) for d, _, amount in thing if d == t)
        taken = sum(value(amount) for _, c, amount in thing if c == t)
        if given != max(pull, 0) or taken != max(-pull, 0):
            return False
    return True


def edges(court, best):
    """The pairs that may be disputes of a dealing of the best table."""
    awards = [value(award) for award in best]
    own = pulls(court, awards)
    return [(d, c) for d, c in order(court) if awards[d] == awards[c] and own[d] > 0 > own[c]]


def corners(court, best):
    """All dealings that are no mixture of others, as dicts: those whose disputes have no ring."""
    own = pulls(court, [value(award) for award in best])
    found = []
    pairs = edges(court, best)
    for mask in range(2 ** len(pairs)):
        chosen = [pair for at, pair in enumerate(pairs) if mask >> at & 1]
        amounts = solved(chosen, [abs(pull) for pull in own])
        if amounts is not None and amounts not in found:
            found.append(amounts)
    return found


def solved(pairs, sums):
    """Amounts above 0 for just these pairs, without a ring, by which each case comes to its sum; None if there are none."""
    rest, amounts, left = list(sums), {}, list(pairs)
    while left:
        ends = [k for k in range(len(rest)) if sum(k in pair for pair in left) == 1]
        if not ends:
            return None
        pair = [pair for pair in left if ends[0] in pair][0]
        amounts[pair] = rest[ends[0]]
        for k in pair:
            rest[k] -= amounts[pair]
        left.remove(pair)
    if any(rest) or any(amount <= 0 for amount in amounts.values()):
        return None
    return amounts


def as_dealing(amounts):
    return tuple((d, c, quotient(amounts[d, c])) for d, c in sorted(amounts) if amounts[d, c])


def is_refused(function, *args):
    try:
        function(*args)
    except NotUsable:
        return True
    return False


def tellers(court, plea, reply):
    return [here for here in range(len(court)) if tells(court, 0, here, plea) and tells(court, 1, here, reply)]


def stories(court, side, here):
    return [story for story in range(len(court)) if tells(court, side, here, story)]


def tellable(court):
    """All pairs of stories that can be told."""
    size = range(len(court))
    return [(plea, reply) for plea in size for reply in size if tellers(court, plea, reply)]


def certain(size, story):
    return tuple((1, 1) if spot == story else (0, 1) for spot in range(size))


def made_row(dice, court, side, here):
    """A row of the side in the case, by the dice: often for certain, and often true."""
    told = stories(court, side, here)
    if dice.random() < 0.5:
        return certain(len(court), dice.choice(told + [here]))
    weights = {story: dice.randint(0, 3) for story in told}
    weights[here] += 1
    return tuple(quotient(Fraction(weights.get(spot, 0), sum(weights.values()))) for spot in range(len(court)))


def made_hearing(dice, court):
    """Any hearing of the court, by the dice."""
    size = range(len(court))
    rights = [case[1] for case in court]
    pleas = tuple(made_row(dice, court, 0, here) for here in size)
    replies = tuple(made_row(dice, court, 1, here) for here in size)
    awards = tuple(
        tuple(dice.choice(rights + [made_right(dice)]) if tellers(court, plea, reply) else None for reply in size)
        for plea in size
    )
    return pleas, replies, awards


def with_award(hearing, plea, reply, award):
    """The hearing with this award of the pair."""
    rows = [list(row) for row in hearing[2]]
    rows[plea][reply] = award
    return hearing[:2] + (tuple(map(tuple, rows)),)


def with_row(hearing, side, here, row):
    rows = list(hearing[side])
    rows[here] = row
    return hearing[:side] + (tuple(rows),) + hearing[side + 1:]


def mean(court, hearing, here, pleas=None, replies=None):
    """The mean award in the case; other rows than those of the hearing may be told."""
    pleas, replies = pleas or hearing[0][here], replies or hearing[1][here]
    size = range(len(court))
    return sum((
        value(pleas[plea]) * value(replies[reply]) * value(hearing[2][plea][reply])
        for plea in size for reply in size if pleas[plea][0] and replies[reply][0]
    ), Fraction(0))


def mean_telling(court, hearing, side, here, story):
    row = certain(len(court), story)
    return mean(court, hearing, here, row, None) if side == 0 else mean(court, hearing, here, None, row)


def pair_weights(court, hearing, plea, reply):
    return [case[0] * value(hearing[0][t][plea]) * value(hearing[1][t][reply]) for t, case in enumerate(court)]


def lies(hearing, side, here):
    return any(chance[0] > 0 and story != here for story, chance in enumerate(hearing[side][here]))


def hearing_fault(court, hearing):
    """What [59] tells of a hearing: the first pair (word, at) that applies, or None."""
    size = range(len(court))
    for t in size:
        for side in (0, 1):
            means = [mean_telling(court, hearing, side, t, story) for story in stories(court, side, t)]
            own = mean(court, hearing, t)
            if (max(means) > own) if side == 0 else (min(means) < own):
                return "gain", (t, side)
    for plea, reply in tellable(court):
        award, weights = value(hearing[2][plea][reply]), pair_weights(court, hearing, plea, reply)
        rights = [value(court[t][1]) for t in tellers(court, plea, reply)]
        if any(weights):
            if sum(weight * lean(case, award) for weight, case in zip(weights, court)) != 0:
                return "belief", (plea, reply)
        elif not min(rights) <= award <= max(rights):
            return "belief", (plea, reply)
    for t in size:
        award, right = value(hearing[2][t][t]), value(court[t][1])
        if (lies(hearing, 0, t) and award < right) or (lies(hearing, 1, t) and award > right):
            return "agreed", t
    for t in size:
        if lies(hearing, 0, t) and lies(hearing, 1, t):
            return "liars", t
    return None


def dealings_of(court, best):
    """Some dealings of the court: a few corners, and mixtures of two or of all of them."""
    found = corners(court, best)[:5]
    mixes = [{pair: sum(one.get(pair, 0) for one in found) / len(found) for one in found for pair in one}]
    for one, other in zip(found, found[1:]):
        mixes.append({pair: (one.get(pair, 0) + 2 * other.get(pair, 0)) / 3 for pair in list(one) + list(other)})
    return sorted({as_dealing(amounts) for amounts in found + mixes})


def turned_round(court, hearing):
    """The court and the hearing with both sides changed for each other, and minus each award."""
    def less(award):
        return None if award is None else (-award[0], award[1])

    cases = tuple((w, less(right), factors[::-1], holdings[::-1], sight) for w, right, factors, holdings, sight in court)
    size = range(len(court))
    awards = tuple(tuple(less(hearing[2][reply][plea]) for reply in size) for plea in size)
    return cases, (hearing[1], hearing[0], awards)
