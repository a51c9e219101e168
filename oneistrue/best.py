"""The rising table that does the least wrong."""

from oneistrue.courts import rights_of, weight_of
from oneistrue.levels import level_in, strain_at
from oneistrue.lots import lot_of, outside, uppers_within
from oneistrue.quotients import lowest, on_one_bottom
from oneistrue.tables import wrong_of
from oneistrue.usable import every_case


def strains_at(court, stake):
    """For each case an integer; they are to each other as the strains of the cases at stake."""
    tops = on_one_bottom([stake] + [case[1] for case in court])[0]
    return [strain_at([case[0]], [case], [right], tops[0]) for case, right in zip(court, tops[1:])]


def strain_in(strains, mask):
    """The sum of the strains of the cases of the mask."""
    return sum([strain for here, strain in enumerate(strains) if mask >> here & 1 == 1])


def least_strained(court, lot, stake):
    """The masks of the sets that are upper within lot and have the least strain of these at stake."""
    strains = strains_at(court, stake)
    masks = uppers_within(court, lot)
    sums = [strain_in(strains, mask) for mask in masks]
    least = min(sums)
    return [mask for mask, strain in zip(masks, sums) if strain == least]


def part_above(court, lot, stake):
    """Of the sets upper within lot with the least strain at stake the one that has all the others in it."""
    union = 0
    for mask in least_strained(court, lot, stake):
        union = union | mask
    return lot_of(union, len(court))


def lots_done(court):
    """Pairs (lot, level): the lot of all cases cut at its level, then each part, as long as a cut parts it."""
    done = []
    lots = [every_case(court)]
    while len(lots) > 0:
        lot = lots.pop()
        level = level_in(court, lot)
        above = part_above(court, lot, level)
        if above == lot:
            done.append((lot, level))
        else:
            lots.append(above)
            lots.append(outside(lot, above))
    return done


def best_table(court):
    awards = {}
    for lot, level in lots_done(court):
        for here in lot:
            awards[here] = level
    return tuple([awards[case] for case in range(len(court))])


def least_wrong(court):
    return wrong_of(court, best_table(court))


def off_share(court):
    best = best_table(court)
    rights = rights_of(court)
    off = tuple([here for here in range(len(court)) if best[here] != rights[here]])
    return lowest(weight_of(court, off), weight_of(court, every_case(court)))
