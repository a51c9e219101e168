"""The fewest facts that part all bad pairs, and papers that prove it."""

from oneistrue.badpairs import bad_pairs
from oneistrue.classes import is_pair
from oneistrue.dealchecker import need_sound
from oneistrue.kinds import is_tuple_of
from oneistrue.sheets import differ, is_fact_set, is_sheet
from oneistrue.usable import need


def all_facts(sheet):
    """The set of all facts of the sheet."""
    return tuple(range(len(sheet[0])))


def sets_of(sheet, many):
    """The sets of so many facts of the sheet, ascending."""
    rows = [()]
    for fact in all_facts(sheet):
        rows = rows + [row + (fact,) for row in rows]
    return sorted([row for row in rows if len(row) == many])


def unparted(court, sheet, facts):
    """The first bad pair that the facts do not part, or None, unchecked."""
    for d, c in bad_pairs(court):
        if not differ(sheet, facts, d, c):
            return d, c
    return None


def open_pair(court, sheet, facts):
    need(is_sheet(court, sheet), "sheet")
    need(is_fact_set(sheet, facts), "facts")
    return unparted(court, sheet, facts)


def fewest_in(court, sheet):
    """What fewest_facts tells, unchecked."""
    for many in range(len(sheet[0]) + 1):
        for facts in sets_of(sheet, many):
            if unparted(court, sheet, facts) is None:
                return facts
    return None


def fewest_facts(court, sheet):
    need(is_sheet(court, sheet), "sheet")
    return fewest_in(court, sheet)


def lesser_sets(sheet, facts):
    """The sets of one fact less than these, none if these are none."""
    return sets_of(sheet, len(facts) - 1)


def fewest_paper(court, sheet):
    need(is_sheet(court, sheet), "sheet")
    facts = fewest_in(court, sheet)
    if facts is None:
        return ("never",) + unparted(court, sheet, all_facts(sheet))
    return "open", facts, tuple([unparted(court, sheet, lesser) for lesser in lesser_sets(sheet, facts)])


def is_unparted(court, sheet, facts, thing):
    """Whether thing is a bad pair that the facts do not part."""
    if not is_pair(len(court), thing) or thing not in bad_pairs(court):
        return False
    return not differ(sheet, facts, thing[0], thing[1])


def open_fault(court, sheet, thing):
    """The pair (word, at) for what is wrong with a paper that begins with "open", or None."""
    _, facts, rows = thing
    if not is_fact_set(sheet, facts) or unparted(court, sheet, facts) is not None:
        return "facts", 1
    lesser = lesser_sets(sheet, facts)
    if not is_tuple_of(len(lesser), rows):
        return "rows", 2
    for i, row in enumerate(rows):
        if not is_unparted(court, sheet, lesser[i], row):
            return "row", i
    return None


def fewest_fault(court, sheet, thing):
    """The pair (word, at) for what is first wrong with a paper of either kind, or None."""
    if not is_tuple_of(3, thing) or not isinstance(thing[0], str) or thing[0] not in ("open", "never"):
        return "shape", -1
    if thing[0] == "open":
        return open_fault(court, sheet, thing)
    if not is_unparted(court, sheet, all_facts(sheet), thing[1:]):
        return "pair", -1
    return None


def lets_fewest(court, sheet, thing):
    need(is_sheet(court, sheet), "sheet")
    need_sound(fewest_fault(court, sheet, thing))
    if thing[0] == "open":
        return len(thing[1])
    return None
