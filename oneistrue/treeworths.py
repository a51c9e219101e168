"""What a tree is worth in a case, if both sides do their best."""

from oneistrue.quotients import greatest_one, least_one, lowest, times, total
from oneistrue.telling import is_within
from oneistrue.treechecker import is_tree
from oneistrue.unseen import unseen_worth
from oneistrue.usable import is_case, need


def chances_by(tree):
    """Pairs (chance, tree) for a tree that begins with "dice"."""
    whole = sum([number for number, _ in tree[1]])
    return [(lowest(number, whole), branch) for number, branch in tree[1]]


def seen_in(case, tree):
    """The tree with which the desk goes on in the case, for a tree that begins with "see"."""
    for sight, branch in tree[1]:
        if sight == case[4]:
            return branch
    return tree[2]


def options_in(case, tree):
    """Pairs (position, tree) of the options that are let in the case, for a tree that begins with "side"."""
    return [
        (at, branch) for at, (bare, branch) in enumerate(tree[2]) if is_within(bare, case[3][tree[1]])
    ]


def rows_in(case, tree):
    """The rows of trees, of those that are let in the case, for a tree that begins with "unseen"."""
    _, ours, theirs, rows = tree
    return [
        [branch for counter, branch in zip(theirs, row) if is_within(counter, case[3][1])]
        for shown, row in zip(ours, rows) if is_within(shown, case[3][0])
    ]


def best_option(case, tree):
    """The first option with the best worth, as (position, tree, worth), for a tree that begins with "side"."""
    options = options_in(case, tree)
    worths = [worth_in(case, branch) for _, branch in options]
    best = greatest_one(worths) if tree[1] == 0 else least_one(worths)
    at, chosen = options[worths.index(best)]
    return at, chosen, best


def played_unseen(case, tree):
    """What unseen_worth tells of the rows and columns that are let, for a tree that begins with "unseen"."""
    return unseen_worth(tuple([tuple([worth_in(case, branch) for branch in row]) for row in rows_in(case, tree)]))


def worth_in(case, tree):
    """The worth of the tree in the case, unchecked."""
    word = tree[0]
    if word == "end":
        return tree[1]
    if word == "dice":
        return total(tuple([times(chance, worth_in(case, branch)) for chance, branch in chances_by(tree)]))
    if word == "see":
        return worth_in(case, seen_in(case, tree))
    if word == "side":
        return best_option(case, tree)[2]
    return played_unseen(case, tree)[0]


def tree_worth(court, tree, here):
    need(is_tree(court, tree), "tree")
    need(is_case(court, here), "here")
    return worth_in(court[here], tree)


def tree_table(court, tree):
    need(is_tree(court, tree), "tree")
    return tuple([worth_in(case, tree) for case in court])


def option_of(court, tree, here):
    need(is_tree(court, tree), "tree")
    need(is_case(court, here), "here")
    if tree[0] != "side":
        return None
    return best_option(court[here], tree)[0]
