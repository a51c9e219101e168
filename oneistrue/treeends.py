"""At which awards a tree ends, and how likely, and the wrong that it does so."""

from oneistrue.leans import wrong_for
from oneistrue.quotients import minus, plus, times, total
from oneistrue.treechecker import is_tree
from oneistrue.treeworths import best_option, chances_by, played_unseen, rows_in, seen_in
from oneistrue.usable import is_case, need

SURE = (1, 1)


def thrown_apart(case, tree):
    """Pairs (chance, tree) for a tree that begins with "unseen"."""
    _, first_row, first_column = played_unseen(case, tree)
    rows = (first_row, minus(SURE, first_row))
    columns = (first_column, minus(SURE, first_column))
    return [
        (times(ours, theirs), branch)
        for ours, row in zip(rows, rows_in(case, tree)) for theirs, branch in zip(columns, row)
    ]


def steps_in(case, tree):
    """Pairs (chance, tree) of what comes next in the case, for a tree that is no end."""
    word = tree[0]
    if word == "dice":
        return chances_by(tree)
    if word == "see":
        return [(SURE, seen_in(case, tree))]
    if word == "side":
        return [(SURE, best_option(case, tree)[1])]
    return thrown_apart(case, tree)


def ends_from(case, tree, chance):
    """Pairs (award, chance) of the ends that come in the case with a chance above 0, some awards more than once."""
    if tree[0] == "end":
        return [(tree[1], chance)]
    steps = [(part, branch) for part, branch in steps_in(case, tree) if part[0] > 0]
    return [pair for part, branch in steps for pair in ends_from(case, branch, times(chance, part))]


def ends_in(case, tree):
    """What ends_of tells, unchecked."""
    chances = {}
    for award, chance in ends_from(case, tree, SURE):
        chances[award] = plus(chances.get(award, (0, 1)), chance)
    return tuple([(told, chances[told]) for told in sorted(chances)])


def ends_of(court, tree, here):
    need(is_tree(court, tree), "tree")
    need(is_case(court, here), "here")
    return ends_in(court[here], tree)


def tree_wrong(court, tree):
    need(is_tree(court, tree), "tree")
    return total(tuple([
        times(times((case[0], 1), chance), wrong_for(case, award))
        for case in court for award, chance in ends_in(case, tree)
    ]))
