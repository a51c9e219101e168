"""Cases made one, parted, put into another sequence; and the sides changed for each other."""

from oneistrue.changes import with_part
from oneistrue.kinds import is_integer, is_numbers
from oneistrue.usable import is_case, need


def merged(court):
    weights = {}
    for case in court:
        rest = case[1:]
        weights[rest] = weights.get(rest, 0) + case[0]
    cases = tuple([(weights[key],) + key for key in weights])
    spots = {key: spot for spot, key in enumerate(weights)}
    return cases, tuple([spots[told[1:]] for told in court])


def halved(court, here, weight):
    need(is_case(court, here), "here")
    need(is_integer(weight) and 1 <= weight < court[here][0], "weight")
    rest = court[here][0] - weight
    return with_part(court, here, 0, weight) + ((rest,) + court[here][1:],)


def renamed(court, places):
    need(is_numbers(places) and sorted(places) == list(range(len(court))), "places")
    return tuple([court[place] for place in places])


def turned_case(case):
    weight, right, factors, holdings, sight = case
    return (weight, (-right[0], right[1]), (factors[1], factors[0]), (holdings[1], holdings[0]), sight)


def turned(court):
    return tuple([turned_case(case) for case in court])
