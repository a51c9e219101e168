"""[64] treechecker, [65] treeworths, [66] treeends, [67] treemaking; (G1), (G2), and [72] as far as it speaks of trees."""

import random
from fractions import Fraction

from oneistrue.best import best_table, least_wrong
from oneistrue.tables import wrong_of
from oneistrue.treechecker import is_tree, lets_tree
from oneistrue.treeends import ends_of, tree_wrong
from oneistrue.treemaking import many_ends, tree_for
from oneistrue.treeworths import option_of, tree_table, tree_worth
from tests import support
from tests.support import (
    ANYTHING, CHAIN, COIN, COPY, EXAMPLES, FOUR, HIGH, MIXED, PAIR, SEEN, WRONG_POSITIVES, WRONG_NUMBERS, WRONG_QUOTIENTS,
    WRONG_SIDES, Case, all_alike, chain, crowded_courts, is_within, made_courts, made_right, quotient, rising_table, unlike,
    value, wrong_cases, wrong_tables,
)
from tests.test_bounds import wrong_showings
from tests.test_unseen import worth_of

FAMILIES = (all_alike(21, 6), unlike(21, 6), chain(21, 6))
COURTS = EXAMPLES + (FOUR, HIGH) + FAMILIES + tuple(made_courts(40, 1, 6, seed=221)) + tuple(crowded_courts(15, 2, 6, seed=222))
NEED = ("side", 0, (((0,), ("end", (1, 1))), ((1,), ("end", (2, 1)))))
COINS = ("dice", ((1, ("end", (0, 1))), (2, ("end", (1, 1))), (1, ("end", (0, 1)))))
END = ("end", (0, 1))
NO_WORD = (
    None, True, 0, "end", "", (), [], ["end", (0, 1)], (0, 1), ("End", (0, 1)), ("ends", (0, 1)), (END,), (None, "end"),
    (["end"], (0, 1)), ("", END),
)


def noughts(court, side):
    return (0,) * len(court[0][3][side])


def made_need(dice, court, side):
    """A need: one that a case has, or lacks by little, or any."""
    held = dice.choice(court)[3][side]
    return dice.choice((held, held, tuple(max(0, grade - 1) for grade in held), tuple(dice.randint(0, 3) for _ in held)))


def made_needs(dice, court, side, many):
    return (noughts(court, side),) + tuple(made_need(dice, court, side) for _ in range(many - 1))


def parted(dice, room, many):
    """So many numbers of at least 1 with at most this sum."""
    rooms = [1] * many
    for _ in range(room - many):
        rooms[dice.randrange(many)] += 1
    return rooms


def made_tree(dice, court, deep=8, room=64, ties=False):
    """A tree nested at most so deep, with at most so many ends, by the dice; with ties its awards are 0 or 1."""
    if deep == 0 or room == 1 or (deep < 6 and dice.random() < 0.2):
        return ("end", (dice.randint(0, 1), 1) if ties else made_right(dice))
    word = dice.choice(("dice", "see", "side", "side", "unseen", "unseen"))
    many = dice.randint(1, min(room, 4))
    if word == "unseen":
        rows, columns = dice.choice([pair for pair in ((1, 1), (1, 2), (2, 1), (2, 2), (2, 2)) if pair[0] * pair[1] <= room])
        many = rows * columns
    trees = [made_tree(dice, court, deep - 1, rest, ties) for rest in parted(dice, room, many)]
    if word == "dice":
        return word, tuple((dice.randint(1, 4), tree) for tree in trees)
    if word == "see":
        known = sorted({case[4] for case in court} | {1, 3, 10 ** 6, 8, 9, 11})
        return word, tuple(zip(sorted(dice.sample(known, many - 1)), trees)), trees[-1]
    if word == "side":
        side = dice.randint(0, 1)
        return word, side, tuple(zip(made_needs(dice, court, side, many), trees))
    table = tuple(tuple(trees[at * columns:(at + 1) * columns]) for at in range(rows))
    return word, made_needs(dice, court, 0, rows), made_needs(dice, court, 1, columns), table


def some_trees(seed, courts=COURTS, each=3):
    dice = random.Random(seed)
    found = []
    for court in courts:
        for at in range(each):
            found.append((court, made_tree(dice, court, dice.choice((1, 2, 3, 4, 8)), dice.choice((4, 12, 64)), at == 0)))
    return found


def inside(tree):
    """Pairs (position, tree) of the trees in a tree, by the words of [64]."""
    word = tree[0]
    if word == "dice":
        return [(at, pair[1]) for at, pair in enumerate(tree[1])]
    if word == "see":
        return [(at, pair[1]) for at, pair in enumerate(tree[1])] + [(len(tree[1]), tree[2])]
    if word == "side":
        return [(at, pair[1]) for at, pair in enumerate(tree[2])]
    if word == "unseen":
        columns = len(tree[2])
        return [(row * columns + column, tree[3][row][column]) for row in range(len(tree[1])) for column in range(columns)]
    return []


def all_paths(tree):
    found = [()]
    for at, part in inside(tree):
        found += [(at,) + path for path in all_paths(part)]
    return found


def part_at(tree, path):
    for at in path:
        tree = dict(inside(tree))[at]
    return tree


def put_in(tree, path, thing):
    """The tree with thing in the place of the tree at the path."""
    if not path:
        return thing
    at, word = path[0], tree[0]
    new = put_in(dict(inside(tree))[at], path[1:], thing)
    if word == "see" and at == len(tree[1]):
        return word, tree[1], new
    if word in ("dice", "see"):
        return (word, tree[1][:at] + ((tree[1][at][0], new),) + tree[1][at + 1:]) + tree[2:]
    if word == "side":
        return word, tree[1], tree[2][:at] + ((tree[2][at][0], new),) + tree[2][at + 1:]
    rows = [list(row) for row in tree[3]]
    rows[at // len(tree[2])][at % len(tree[2])] = new
    return tree[:3] + (tuple(map(tuple, rows)),)


def deepness(tree):
    return max([1 + deepness(part) for _, part in inside(tree)], default=0)


def ends(tree):
    return 1 if tree[0] == "end" else sum(ends(part) for _, part in inside(tree))


def is_best(worths, at, side):
    return worths[at] == (max if side == 0 else min)(worths.values())


def worth(case, tree):
    """The worth by the definition, as a Fraction."""
    word = tree[0]
    if word == "end":
        return value(tree[1])
    if word == "dice":
        return sum(number * worth(case, part) for number, part in tree[1]) / Fraction(sum(number for number, _ in tree[1]))
    if word == "see":
        return worth(case, dict(tree[1]).get(case[4], tree[2]))
    if word == "side":
        worths = [worth(case, part) for need, part in tree[2] if is_within(need, case[3][tree[1]])]
        return max(worths) if tree[1] == 0 else min(worths)
    return worth_of(open_rows(case, tree)[0])[0]


def open_rows(case, tree):
    """The worths and the trees of an unseen choice, row by row, as far as they are let."""
    kept = [
        [part for need, part in zip(tree[2], row) if is_within(need, case[3][1])]
        for need, row in zip(tree[1], tree[3]) if is_within(need, case[3][0])
    ]
    return tuple(tuple(quotient(worth(case, part)) for part in row) for row in kept), kept


def option(case, tree):
    worths = {at: worth(case, part) for at, (need, part) in enumerate(tree[2]) if is_within(need, case[3][tree[1]])}
    return min(at for at in worths if is_best(worths, at, tree[1]))


def spread(case, tree, chance=Fraction(1), found=None):
    """The chances of the awards, as a dict, by the words of [66]."""
    found = {} if found is None else found
    word = tree[0]
    if chance == 0:
        return found
    if word == "end":
        found[tree[1]] = found.get(tree[1], 0) + chance
    elif word == "dice":
        whole = sum(number for number, _ in tree[1])
        for number, part in tree[1]:
            spread(case, part, chance * Fraction(number, whole), found)
    elif word == "see":
        spread(case, dict(tree[1]).get(case[4], tree[2]), chance, found)
    elif word == "side":
        spread(case, tree[2][option(case, tree)][1], chance, found)
    else:
        rows, kept = open_rows(case, tree)
        _, first, second = worth_of(rows)
        for ours, row in zip((first, 1 - first), kept):
            for theirs, part in zip((second, 1 - second), row):
                spread(case, part, chance * ours * theirs, found)
    return found


def bad_parts(court):
    """Trees that begin with a right word, but have a part that is not as told."""
    bare, other = noughts(court, 0), noughts(court, 1)
    pair, rows = (1, END), ((END, END),)
    wrong = [("end",), ("end", (0, 1), (0, 1)), ("end", END)] + [("end", bad) for bad in WRONG_QUOTIENTS]
    wrong += [("dice",), ("dice", ()), ("dice", [pair]), ("dice", (pair,), END), ("dice", (pair, [1, END])), ("dice", END)]
    wrong += [("dice", (pair, (1,))), ("dice", (pair, (1, END, END))), ("dice", None), ("dice", (pair, None))]
    wrong += [("dice", (pair, (bad, END))) for bad in WRONG_POSITIVES] + [("dice", ((bad, END), pair)) for bad in WRONG_POSITIVES]
    wrong += [("see", ()), ("see",), ("see", (), END, END), ("see", [], END), ("see", [pair], END), ("see", (pair, pair), END)]
    wrong += [("see", (pair, (0, END)), END), ("see", ((1,),), END), ("see", ((1, END, END),), END), ("see", ([1, END],), END)]
    wrong += [("see", ((bad, END), (10 ** 60, END)), END) for bad in WRONG_NUMBERS] + [("see", None, END), ("see", pair, END)]
    wrong += [("side", 0), ("side",), ("side", 0, ((bare, END),), END), ("side", 0, ()), ("side", 0, [(bare, END)])]
    wrong += [("side", bad, ((bare, END),)) for bad in WRONG_SIDES] + [("side", 0, ((bare, END), [bare, END]))]
    wrong += [("side", 0, ((bare, END), (bare,))), ("side", 0, ((bare, END, END),)), ("side", 0, ((bare, END), None)), ("side", 0, None)]
    for side, own in ((0, bare), (1, other)):
        wrong += [("side", side, ((bad, END),)) for bad in wrong_showings(len(own))]
        wrong += [("side", side, ((own, END), (bad, END))) for bad in wrong_showings(len(own))]
    good = ("unseen", (bare,), (other, other), rows)
    wrong += [good[:3], good + (END,), ("unseen",), ("unseen", [bare], (other,), ((END,),)), ("unseen", (bare,), [other], ((END,),))]
    wrong += [("unseen", (), (other,), ()), ("unseen", (bare,), (), ((),)), ("unseen", (bare,) * 3, (other,), ((END,),) * 3)]
    wrong += [("unseen", (bare,), (other,) * 3, ((END,) * 3,)), ("unseen", bare, other, rows), ("unseen", None, None, None)]
    wrong += [("unseen", (bad,), (other, other), rows) for bad in wrong_showings(len(bare))]
    wrong += [("unseen", (bare, bad), (other,), ((END,),) * 2) for bad in wrong_showings(len(bare))]
    wrong += [("unseen", (bare,), (other, bad), rows) for bad in wrong_showings(len(other))]
    wrong += [good[:3] + (bad,) for bad in (None, (), [], (("end", END, END),), (END, END), rows + rows, ((END,),), ((END,) * 3,), [(END, END)])]
    wrong += [good[:3] + (bad,) for bad in (([END, END],), (None,), rows + (END,))]
    tall = ("unseen", (bare, bare), (other, other))
    wrong += [tall + (bad,) for bad in ((rows[0], (END,)), ((END,), rows[0]), (rows[0], None), (rows[0], [END, END]), (rows[0], ()))]
    return wrong


def bare_first(court):
    """Trees of which a first need is not noughts alone, and all else, but for the trees in them, is as told."""
    bare, other = noughts(court, 0), noughts(court, 1)
    wrong = []
    for side, own in ((0, bare), (1, other)):
        for at in range(len(own)):
            full = own[:at] + (2,) + own[at + 1:]
            for part in (END, None):
                wrong += [("side", side, ((full, part),)), ("side", side, ((full, part), (own, part)))]
                needs = ((full, own), (other,)) if side == 0 else ((bare,), (full, own))
                rows = tuple((part,) * len(needs[1]) for _ in needs[0])
                wrong.append(("unseen",) + needs + (rows,))
    return wrong


class CheckerTest(Case):
    def test_good_trees(self):
        kinds = set()
        for court, tree in some_trees(223):
            self.same(lets_tree(court, tree), ends(tree))
            self.same(lets_tree(court=court, thing=tree), ends(tree))
            self.same(is_tree(court, tree), True)
            self.same(is_tree(court=court, thing=tree), True)
            self.same(many_ends(tree), ends(tree))
            self.same(many_ends(tree=tree), ends(tree))
            kinds |= {(part_at(tree, path)[0], min(len(path), 5)) for path in all_paths(tree)}
        self.assertEqual(kinds, {(word, at) for word in ("end", "dice", "see", "side", "unseen") for at in range(6)})

    def test_by_hand(self):
        self.same(lets_tree(PAIR, END), 1)
        self.same(lets_tree(SEEN, ("side", 1, (((), END),))), 1)
        self.same(lets_tree(SEEN, ("unseen", ((), ()), ((), ()), ((END, END), (END, END)))), 4)
        self.same(lets_tree(PAIR, ("see", (), NEED)), 2)
        self.check_paper("parts", (1,), lets_tree, PAIR, ("see", ((0, NEED),), ("dice", ())))
        # The same tree may stand in many places.
        self.same(lets_tree(PAIR, ("dice", ((3, NEED),) * 32)), 64)
        # The needs of the other side have no grades here.
        self.check_paper("parts", (), lets_tree, PAIR, ("side", 1, (((0,), END),)))
        self.check_paper("parts", (), lets_tree, COPY, ("side", 1, (((), END),)))

    def check_faults(self, court, tree, faults, dice):
        paths = all_paths(tree)
        for word, things in faults:
            for thing in things:
                path = dice.choice(paths)
                wrong = put_in(tree, path, thing)
                with self.subTest(court=court, wrong=wrong):
                    self.check_paper(word, path, lets_tree, court, wrong)
                    self.same(is_tree(court, wrong), False)

    def test_one_fault_anywhere(self):
        dice = random.Random(224)
        for court in (PAIR, COPY, SEEN, COIN, MIXED, CHAIN):
            faults = (("word", NO_WORD), ("parts", bad_parts(court)), ("first", bare_first(court)))
            for deep in (0, 1, 3, 8):
                self.check_faults(court, made_tree(dice, court, deep, 64), faults, dice)

    def test_each_place_of_each_kind(self):
        trees = (
            NEED, COINS, ("see", ((0, END), (4, END)), END), ("unseen", ((0,), (1,)), ((), ()), ((END, END), (END, END))),
            ("see", (), END),
        )
        for one in trees:
            for other in trees:
                for at, _ in inside(one):
                    for spot, _ in inside(other):
                        for word, bad in (("word", 0), ("parts", ("end",)), ("first", ("side", 0, (((1,), END),)))):
                            wrong = put_in(put_in(one, (at,), other), (at, spot), bad)
                            self.check_paper(word, (at, spot), lets_tree, PAIR, wrong)

    def test_the_first_of_two_faults(self):
        dice = random.Random(225)
        many = 0
        for court, tree in some_trees(226):
            faults = [("word", NO_WORD), ("parts", bad_parts(court)), ("first", bare_first(court))]
            faults = [(word, thing) for word, things in faults if things for thing in dice.sample(things, 2)]
            paths = all_paths(tree)
            for _ in range(6):
                one, other = dice.choice(paths), dice.choice(paths)
                apart = one[:len(other)] != other and other[:len(one)] != one
                if apart:
                    told = {one: dice.choice(faults), other: dice.choice(faults)}
                    wrong = put_in(put_in(tree, one, told[one][1]), other, told[other][1])
                    self.check_paper(told[min(told)][0], min(told), lets_tree, court, wrong)
                    many += 1
        self.assertGreater(many, 200)
        # What is wrong with a tree comes ahead of what is wrong with the trees in it, and parts ahead of first needs.
        self.check_paper("first", (), lets_tree, PAIR, ("side", 0, (((1,), None),)))
        self.check_paper("parts", (), lets_tree, PAIR, ("side", 0, (((1,), END), ((True,), END))))
        self.check_paper("parts", (), lets_tree, PAIR, ("dice", ((1, None), (0, END))))
        self.check_paper("parts", (0,), lets_tree, PAIR, ("dice", ((1, ("end",)), (1, None))))
        self.check_paper("word", (0, 0), lets_tree, PAIR, ("dice", ((1, ("see", (), None)), (1, ("end",)))))

    def test_anything(self):
        for thing in ANYTHING + (PAIR, COIN, [END], "side"):
            self.check_paper("word", (), lets_tree, PAIR, thing)
            self.same(is_tree(PAIR, thing), False)
            self.refuses("tree", many_ends, thing)

    def test_nested_deeper(self):
        tree = END
        for _ in range(9):
            tree = ("dice", ((1, tree),))
        self.same(lets_tree(PAIR, tree), 1)
        self.check_paper("word", (0,) * 9, lets_tree, PAIR, put_in(tree, (0,) * 9, None))


class ManyEndsTest(Case):
    def test_needs_of_any_length(self):
        for own in ((), (0,), (0, 0, 0)):
            for other in ((), (7,), (1, 2, 3, 4)):
                tree = ("side", 1, ((own, NEED), (other, COINS), ((), END)))
                self.same(many_ends(tree), 6)
                self.same(many_ends(("unseen", (own, other), (own,), ((tree,), (END,)))), 7)
                self.same(is_tree(SEEN, tree), False)

    def test_refusals(self):
        for court in (PAIR, SEEN, MIXED):
            wrong = NO_WORD + tuple(thing for thing in bad_parts(court) if not is_other_length(thing))
            for bad in wrong + tuple(bare_first(court)):
                for place in (bad, ("dice", ((1, END), (1, bad))), ("see", (), bad)):
                    self.refuses("tree", many_ends, place)
                    self.refuses("tree", many_ends, tree=place)
        self.refuses("tree", many_ends, ("side", 0, (((0, 1), END),)))
        self.refuses("tree", many_ends, ("unseen", ((),), ((1,),), ((END,),)))


def is_other_length(thing):
    """Whether all that is wrong with it may be the length of needs."""
    if thing[0] == "side" and len(thing) == 3 and isinstance(thing[2], tuple):
        needs = [pair[0] for pair in thing[2] if isinstance(pair, tuple) and len(pair) == 2]
        return len(needs) == len(thing[2]) and all(is_numbers(need) for need in needs) and thing[1] in (0, 1)
    if thing[0] == "unseen" and len(thing) == 4 and isinstance(thing[1], tuple) and isinstance(thing[2], tuple):
        return all(is_numbers(need) for need in thing[1] + thing[2]) and 0 < len(thing[1]) < 3 and 0 < len(thing[2]) < 3
    return False


def is_numbers(thing):
    return isinstance(thing, tuple) and all(type(part) is int and part >= 0 for part in thing)


class WorthsTest(Case):
    def test_by_definition(self):
        mixed = set()
        for court, tree in some_trees(227):
            worths = [worth(case, tree) for case in court]
            self.same(tree_table(court, tree), tuple(map(quotient, worths)))
            self.same(tree_table(court=court, tree=tree), tuple(map(quotient, worths)))
            self.assertTrue(support.is_rising(court, worths))
            for here, case in enumerate(court):
                self.same(tree_worth(court, tree, here), quotient(worths[here]))
                self.same(tree_worth(court=court, tree=tree, here=here), quotient(worths[here]))
                expected = option(case, tree) if tree[0] == "side" else None
                self.same(option_of(court, tree, here), expected)
                self.same(option_of(court=court, tree=tree, here=here), expected)
                if tree[0] == "unseen":
                    mixed.add(worth_of(open_rows(case, tree)[0])[1] in (0, 1))
        self.assertEqual(mixed, {True, False})

    def test_options(self):
        # The first one of equals, among all options also those that are not let.
        tree = ("side", 0, (((0,), END), ((2,), ("end", (9, 1))), ((1,), ("end", (1, 1))), ((0,), ("end", (1, 1)))))
        self.same([option_of(PAIR, tree, here) for here in (0, 1)], [2, 3])
        self.same([option_of(PAIR, ("see", (), tree), here) for here in (0, 1)], [None, None])
        self.same(option_of(PAIR, ("side", 0, (((0,), END), ((1,), END), ((0,), END))), 0), 0)
        less = ("side", 1, (((0,), ("end", (1, 1))), ((1,), END), ((0,), ("end", (1, 2))), ((0,), ("end", (1, 2)))))
        self.same([option_of(COPY, less, here) for here in (0, 1)], [1, 2])
        self.same(tree_table(COPY, less), ((0, 1), (1, 2)))
        # Awards are compared by value.
        self.same(option_of(PAIR, ("side", 0, (((0,), ("end", (2, 5))), ((0,), ("end", (1, 2))))), 0), 1)

    def test_sights(self):
        tree = ("see", ((0, END), (3, ("end", (3, 1)))), ("end", (7, 1)))
        self.same(tree_table(SEEN, tree), ((0, 1), (7, 1)))
        self.same(tree_table(SEEN, ("see", ((1, END),), ("end", (7, 1)))), ((7, 1), (0, 1)))
        self.same(tree_table(SEEN, ("see", (), ("end", (7, 1)))), ((7, 1), (7, 1)))
        self.same(tree_table(SEEN, ("see", ((10 ** 6, END),), ("end", (7, 1)))), ((7, 1), (7, 1)))

    def test_unseen(self):
        rows = ((("end", (3, 1)), END), (("end", (1, 1)), ("end", (2, 1))))
        tree = ("unseen", ((0,), (1,)), ((), ()), rows)
        self.same(tree_table(PAIR, tree), ((3, 2), (0, 1)))
        self.same(ends_of(PAIR, tree, 0), (((0, 1), (1, 8)), ((1, 1), (3, 8)), ((2, 1), (3, 8)), ((3, 1), (1, 8))))
        self.same(ends_of(PAIR, tree, 1), (((0, 1), (1, 1)),))

    def test_limits(self):
        dice = random.Random(228)
        for court in FAMILIES + (COIN, MIXED):
            for word in ("side", "dice", "see", "unseen"):
                tree = full_tree(dice, court, word, 8)
                self.assertEqual((deepness(tree), ends(tree)), (8, 64))
                self.same(lets_tree(court, tree), 64)
                self.same(tree_table(court, tree), tuple(quotient(worth(case, tree)) for case in court))
                self.same(ends_of(court, tree, 0), as_pairs(spread(court[0], tree)))
        great = ("dice", tuple((10 ** 15 - at, ("end", quotient(Fraction(10 ** 15, 10 ** 15 - 1 - at)))) for at in range(8)))
        self.same(tree_worth(PAIR, great, 1), quotient(worth(PAIR[1], great)))

    def test_refusals(self):
        for court in (PAIR, SEEN, MIXED):
            good = {"court": court, "tree": made_tree(random.Random(5), court), "here": 0}
            wrong = {"tree": wrong_trees(court), "here": wrong_cases(court)}
            for function in (tree_worth, option_of, ends_of):
                self.check_parameters(function, good, wrong)
            for function in (tree_table, tree_wrong):
                self.check_parameters(function, {"court": court, "tree": good["tree"]}, {"tree": wrong["tree"]})


def wrong_trees(court):
    deep = tuple(("see", ((2, END),), bad) for bad in bad_parts(court)[:12] + bare_first(court)[:4] + list(NO_WORD))
    return NO_WORD + tuple(bad_parts(court)) + tuple(bare_first(court)) + deep


def full_tree(dice, court, word, deep):
    """A tree of sixty-four ends, eight deep, with one kind at each step where that may be."""
    wide = 2 if deep > 2 else 1
    if deep == 0:
        return "end", made_right(dice)
    trees = [full_tree(dice, court, word, deep - 1) for _ in range(wide)]
    if word == "dice":
        return word, tuple((dice.randint(1, 60), tree) for tree in trees)
    if word == "see":
        return word, ((dice.choice(court)[4], trees[0]),)[:wide - 1], trees[-1]
    if word == "side":
        side = deep & 1
        return word, side, tuple(zip(made_needs(dice, court, side, wide), trees))
    columns = made_needs(dice, court, 1, wide)
    return word, (noughts(court, 0),), columns, (tuple(trees),)


def as_pairs(found):
    return tuple(sorted((award, quotient(chance)) for award, chance in found.items()))


class EndsTest(Case):
    def test_by_definition(self):
        certain = {True: 0, False: 0}
        for court, tree in some_trees(229):
            wrong = Fraction(0)
            for here, case in enumerate(court):
                told = spread(case, tree)
                pairs = ends_of(court, tree, here)
                self.same(pairs, as_pairs(told))
                self.same(ends_of(court=court, tree=tree, here=here), pairs)
                mean = sum(value(award) * value(chance) for award, chance in pairs)
                self.same(quotient(mean), tree_worth(court, tree, here))
                self.assertEqual(sum(value(chance) for _, chance in pairs), 1)
                for award, chance in told.items():
                    wrong += case[0] * chance * support.lean(case, value(award)) * (value(award) - value(case[1]))
                certain[len(pairs) == 1] += 1
            self.same(tree_wrong(court, tree), quotient(wrong))
            self.same(tree_wrong(court=court, tree=tree), quotient(wrong))
            self.assertGreaterEqual(wrong, value(wrong_of(court, tree_table(court, tree))))
            self.check_least(court, tree, wrong)
        self.assertGreater(min(certain.values()), 50)

    def check_least(self, court, tree, wrong):
        """(G2): as little as the best table exactly if each award is the best one for certain."""
        best = best_table(court)
        sure = all(ends_of(court, tree, here) == ((best[here], (1, 1)),) for here in range(len(court)))
        self.assertGreaterEqual(wrong, value(least_wrong(court)))
        self.assertEqual(wrong == value(least_wrong(court)), sure)

    def test_by_hand(self):
        self.same(ends_of(PAIR, COINS, 0), (((0, 1), (1, 2)), ((1, 1), (1, 2))))
        self.same(tree_wrong(PAIR, COINS), (1, 1))
        # What comes with the chance 0 is no end: the saddle throws no dice.
        tree = ("unseen", ((0,), (0,)), ((), ()), ((END, ("end", (1, 1))), (("end", (-1, 1)), ("end", (2, 1)))))
        self.same(ends_of(PAIR, tree, 0), (((0, 1), (1, 1)),))
        # Awards ascend as pairs.
        tree = ("dice", ((1, ("end", (1, 3))), (1, ("end", (1, 2))), (2, ("end", (-5, 1)))))
        self.same(ends_of(PAIR, tree, 0), (((-5, 1), (1, 2)), ((1, 2), (1, 4)), ((1, 3), (1, 4))))


class MakingTest(Case):
    def test_rising_tables(self):
        dice = random.Random(230)
        for court in COURTS + FAMILIES:
            tables = [best_table(court)] + [rising_table(dice, court) for _ in range(4)]
            tables.append(rising_table(dice, court, ((0, 1), (1, 1))))
            for table in tables:
                tree = tree_for(court, table)
                self.same(tree_for(court=court, table=table), tree)
                self.assertLessEqual(deepness(tree), 3)
                self.assertLessEqual(lets_tree(court, tree), 64)
                self.same(tree_table(court, tree), table)
                self.same(many_ends(tree), ends(tree))
            self.same(tree_wrong(court, tree_for(court, tables[0])), least_wrong(court))

    def test_the_greatest_ones(self):
        ladder = tuple((1, (at, 1), (1, 1), ((at, 6 - at, 1), (1 + at, 7 - at)), 0) for at in range(6))
        steps = tuple((1, (at, 1), (1, 1), ((3, at + 1), (3, 7 - at)), 0) for at in range(6))
        apart = tuple(case[:4] + (at & 1,) for at, case in enumerate(ladder))
        for court in (ladder, steps, apart, tuple(case[:4] + (at // 2,) for at, case in enumerate(steps))):
            for table in (best_table(court), rising_table(random.Random(3), court)):
                tree = tree_for(court, table)
                self.same(tree_table(court, tree), table)
                self.assertLessEqual(lets_tree(court, tree), 64)
                self.assertLessEqual(deepness(tree), 3)

    def test_refusals(self):
        for court in (PAIR, SEEN, MIXED):
            good = {"court": court, "table": best_table(court)}
            self.check_parameters(tree_for, good, {"table": wrong_tables(court)})
        self.raises("Falling", {"here": 0, "there": 1}, tree_for, PAIR, ((0, 1), (1, 1)))
        self.raises("Falling", {"here": 0, "there": 2}, tree_for, court=COIN, table=((0, 1), (0, 1), (1, 1)))
        self.raises("Falling", {"here": 1, "there": 2}, tree_for, COIN, ((1, 2), (2, 5), (1, 2)))
