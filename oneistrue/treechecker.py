"""Tells whether a thing is a tree, and if not, what is wrong with it."""

from oneistrue.dealchecker import need_sound
from oneistrue.kinds import is_ascending, is_holding, is_numbers, is_positive, is_quotient, is_tuple_of
from oneistrue.usable import is_side

WORDS = ("end", "dice", "see", "side", "unseen")


def needs_of(court):
    """How many grades the needs of the claimant and of the defendant have."""
    return len(court[0][3][0]), len(court[0][3][1])


def is_need(lengths, side, thing):
    """Whether thing is a need of this side; lengths tells how many grades, None lets any number of them."""
    if lengths is None:
        return is_numbers(thing)
    return is_holding(lengths[side], thing)


def is_pairs(thing):
    """A tuple of pairs, however many."""
    return isinstance(thing, tuple) and all([is_tuple_of(2, part) for part in thing])


def is_dice(thing):
    return is_pairs(thing) and len(thing) > 0 and all([is_positive(number) for number, _ in thing])


def is_sights(thing):
    """Pairs that begin with ascending sights."""
    if not is_pairs(thing):
        return False
    sights = tuple([sight for sight, _ in thing])
    return is_numbers(sights) and is_ascending(sights)


def is_options(lengths, side, thing):
    """Pairs, at least one, that begin with needs of the side."""
    return is_pairs(thing) and len(thing) > 0 and all([is_need(lengths, side, need) for need, _ in thing])


def is_needs(lengths, side, thing):
    """A tuple of one or two needs of the side."""
    if not isinstance(thing, tuple) or len(thing) not in (1, 2):
        return False
    return all([is_need(lengths, side, need) for need in thing])


def is_unseen(lengths, ours, theirs, rows):
    """Needs of both sides, and rows of as many trees; whether they are trees is not asked."""
    if not is_needs(lengths, 0, ours) or not is_needs(lengths, 1, theirs):
        return False
    return is_tuple_of(len(ours), rows) and all([is_tuple_of(len(theirs), row) for row in rows])


def has_word(thing):
    """A tuple that begins with one of the five words."""
    return isinstance(thing, tuple) and len(thing) > 0 and isinstance(thing[0], str) and thing[0] in WORDS


def has_parts(lengths, thing):
    """Whether a tuple that begins with one of the words has its parts; whether trees in it are trees is not asked."""
    word = thing[0]
    if word == "end":
        return len(thing) == 2 and is_quotient(thing[1])
    if word == "dice":
        return len(thing) == 2 and is_dice(thing[1])
    if word == "see":
        return len(thing) == 3 and is_sights(thing[1])
    if word == "side":
        return len(thing) == 3 and is_side(thing[1]) and is_options(lengths, thing[1], thing[2])
    return len(thing) == 4 and is_unseen(lengths, thing[1], thing[2], thing[3])


def first_needs(tree):
    """The first need of each choice that the tree itself begins with."""
    if tree[0] == "side":
        return [tree[2][0][0]]
    if tree[0] == "unseen":
        return [tree[1][0], tree[2][0]]
    return []


def branches_of(tree):
    """What stands in the places of the trees in this one, by their positions."""
    word = tree[0]
    if word == "end":
        return []
    if word == "dice":
        return [branch for _, branch in tree[1]]
    if word == "see":
        return [branch for _, branch in tree[1]] + [tree[2]]
    if word == "side":
        return [branch for _, branch in tree[2]]
    return [branch for row in tree[3] for branch in row]


def tree_fault(lengths, thing, path):
    """The pair (word, path) for what is first wrong with thing as a tree at the path, or None."""
    if not has_word(thing):
        return "word", path
    if not has_parts(lengths, thing):
        return "parts", path
    if not all([grade == 0 for bare in first_needs(thing) for grade in bare]):
        return "first", path
    for at, branch in enumerate(branches_of(thing)):
        fault = tree_fault(lengths, branch, path + (at,))
        if fault is not None:
            return fault
    return None


def ends_below(tree):
    """How many ends the tree has, each place counted."""
    if tree[0] == "end":
        return 1
    return sum([ends_below(branch) for branch in branches_of(tree)])


def lets_tree(court, thing):
    need_sound(tree_fault(needs_of(court), thing, ()))
    return ends_below(thing)


def is_tree(court, thing):
    return tree_fault(needs_of(court), thing, ()) is None
