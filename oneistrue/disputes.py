"""How much of a pull goes from one case to another one in all dealings of a court."""

from oneistrue.best import best_table
from oneistrue.changes import put
from oneistrue.dealing import network_of
from oneistrue.flows import sum_along
from oneistrue.quotients import lowest
from oneistrue.usable import is_case, need


def best_network(court):
    return network_of(court, best_table(court))


def least_in(network, pair):
    """The least amount of the pair, as an integer on the network's bottom."""
    pairs, gives, takes, _ = network
    # What does not go without the pair has to go along it.
    return sum(gives) - sum_along([other for other in pairs if other != pair], gives, takes)


def greatest_in(network, pair):
    """The greatest amount of the pair, likewise."""
    pairs, gives, takes, _ = network
    if pair not in pairs:
        return 0
    d, c = pair
    most = min(gives[d], takes[c])
    rest = [other for other in pairs if other != pair]
    along = sum_along(rest, put(gives, d, gives[d] - most), put(takes, c, takes[c] - most))
    # If the pair has too much, less of it by one lets two more go along the others, one more in all.
    return most - (sum(gives) - most - along)


def least_deal(court, here, there):
    need(is_case(court, here), "here")
    need(is_case(court, there), "there")
    network = best_network(court)
    return lowest(least_in(network, (here, there)), network[3])


def greatest_deal(court, here, there):
    need(is_case(court, here), "here")
    need(is_case(court, there), "there")
    network = best_network(court)
    return lowest(greatest_in(network, (here, there)), network[3])


def open_disputes(court):
    network = best_network(court)
    return tuple([pair for pair in network[0] if greatest_in(network, pair) > 0])


def sure_disputes(court):
    network = best_network(court)
    return tuple([pair for pair in network[0] if least_in(network, pair) > 0])


def is_only(court):
    network = best_network(court)
    return all([least_in(network, pair) == greatest_in(network, pair) for pair in network[0]])
