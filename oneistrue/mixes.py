"""Dealings mixed of two, and dealings with a given amount."""

from math import lcm

from oneistrue.changes import put
from oneistrue.dealchecker import is_dealing
from oneistrue.dealing import dealing_along
from oneistrue.disputes import best_network, greatest_in, least_in
from oneistrue.flows import most_along
from oneistrue.kinds import is_quotient
from oneistrue.quotients import minus, plus, times
from oneistrue.usable import is_case, need

NOUGHT = (0, 1)


def mixture(dealing, more, part):
    """What mixed tells, unchecked."""
    rest = minus((1, 1), part)
    amounts = {(d, c): times(part, amount) for d, c, amount in dealing}
    for dispute in more:
        known = amounts.get(dispute[:2], NOUGHT)
        amounts[dispute[:2]] = plus(known, times(rest, dispute[2]))
    return tuple([pair + (amounts[pair],) for pair in sorted(amounts) if amounts[pair][0] > 0])


def is_part(thing):
    """A quotient from 0 to 1."""
    return is_quotient(thing) and 0 <= thing[0] <= thing[1]


def mixed(court, dealing, more, part):
    need(is_dealing(court, dealing), "dealing")
    need(is_dealing(court, more), "more")
    need(is_part(part), "part")
    return mixture(dealing, more, part)


def finer(network, bottom):
    """The network with integers on a bottom that is a multiple of this one."""
    pairs, gives, takes, old = network
    by = lcm(old, bottom) // old
    return pairs, tuple([by * top for top in gives]), tuple([by * top for top in takes]), by * old


def dealing_with(court, here, there, amount):
    need(is_case(court, here), "here")
    need(is_case(court, there), "there")
    need(is_quotient(amount), "amount")
    network = finer(best_network(court), amount[1])
    pairs, gives, takes, bottom = network
    pair = (here, there)
    top = amount[0] * (bottom // amount[1])
    need(least_in(network, pair) <= top <= greatest_in(network, pair), "amount")
    rest = [other for other in pairs if other != pair]
    amounts = most_along(rest, put(gives, here, gives[here] - top), put(takes, there, takes[there] - top))
    amounts[pair] = top
    return dealing_along(amounts, bottom)
