"""A tree for each rising table, and how many ends a tree has."""

from oneistrue.bounds import low_in
from oneistrue.kinds import is_table
from oneistrue.quotients import least_one
from oneistrue.tables import need_rising
from oneistrue.treechecker import ends_below, tree_fault
from oneistrue.usable import need


def showings_for(court, side, sight):
    """What the side may have to show at this sight: noughts, and its holdings in the cases of the sight, ascending."""
    noughts = (0,) * len(court[0][3][side])
    return sorted(set([noughts] + [case[3][side] for case in court if case[4] == sight]))


def award_between(court, table, sight, shown, counter):
    """The low award for these showings, the least award of the table where it is None."""
    low = low_in(court, table, sight, shown, counter)
    if low is None:
        return least_one(table)
    return low


def turns_at(court, table, sight):
    """The tree at a sight: the claimant shows a holding, then the defendant does."""
    replies = showings_for(court, 1, sight)
    return ("side", 0, tuple([
        (shown, ("side", 1, tuple([
            (counter, ("end", award_between(court, table, sight, shown, counter))) for counter in replies
        ])))
        for shown in showings_for(court, 0, sight)
    ]))


def tree_for(court, table):
    need(is_table(len(court), table), "table")
    need_rising(court, table)
    sights = sorted({case[4] for case in court})
    trees = [(sight, turns_at(court, table, sight)) for sight in sights]
    # Each case has one of the sights, so the last tree may stand for all others.
    return ("see", tuple(trees[:-1]), trees[-1][1])


def many_ends(tree):
    need(tree_fault(None, tree, ()) is None, "tree")
    return ends_below(tree)
