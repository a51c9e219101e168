"""Rings of disputes, and dealings without any."""

from oneistrue.dealchecker import is_dealing
from oneistrue.quotients import least_one, minus, plus
from oneistrue.usable import need


def pairs_in(dealing):
    """The disputes of the dealing, ascending."""
    return tuple([(d, c) for d, c, _ in dealing])


def beside(pairs, here):
    """The cases with which here is in a pair."""
    return [c for d, c in pairs if d == here] + [d for d, c in pairs if c == here]


def without_ends(pairs):
    """What stays of the pairs if those with a case that is in no other pair go, again and again."""
    last = []
    stay = pairs
    while len(stay) != len(last):
        last = stay
        stay = [(d, c) for d, c in last if len(beside(last, d)) > 1 and len(beside(last, c)) > 1]
    return stay


def ring_in(pairs):
    """A ring of the pairs, None if there is none."""
    stay = without_ends(pairs)
    if len(stay) == 0:
        return None
    way = list(stay[0])
    # Each case is in two pairs at least, so the way goes on, but not back, until it comes to itself.
    while way.count(way[-1]) == 1:
        ahead = [there for there in beside(stay, way[-1]) if there != way[-2]]
        way.append(ahead[0])
    return tuple(way[way.index(way[-1]):-1])


def without_ring(dealing, ring):
    """The dealing with amounts moved around the ring, until one of them is nought."""
    amounts = {(d, c): amount for d, c, amount in dealing}
    around = [
        (one, other) if (one, other) in amounts else (other, one)
        for one, other in zip(ring, ring[1:] + ring[:1])
    ]
    # Two neighbours in the ring share a case; so what it gives or takes stays the same in all.
    least = least_one([amounts[step] for step in around[0::2]])
    for pair in around[0::2]:
        amounts[pair] = minus(amounts[pair], least)
    for pair in around[1::2]:
        amounts[pair] = plus(amounts[pair], least)
    return tuple([step + (amounts[step],) for step in sorted(amounts) if amounts[step][0] > 0])


def ring_of(court, dealing):
    need(is_dealing(court, dealing), "dealing")
    return ring_in(pairs_in(dealing))


def forest_of(court, dealing):
    need(is_dealing(court, dealing), "dealing")
    last = dealing
    ring = ring_in(pairs_in(last))
    while ring is not None:
        last = without_ring(last, ring)
        ring = ring_in(pairs_in(last))
    return last
