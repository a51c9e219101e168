"""The most that can go along pairs, from what cases give to what other ones take.

No case both gives and takes. Amounts are integers of at least 0, in a dict by the pairs (giver, taker).
"""


def steps_from(amounts, here):
    """Where a way goes on behind here: along a pair, or back along one along which something goes."""
    ahead = [c for d, c in amounts if d == here]
    back = [d for d, c in amounts if c == here and amounts[(d, c)] > 0]
    return ahead + back


def way_between(amounts, starts, goals):
    """A shortest way from one of the starts to one of the goals, None if there is none."""
    seen = {here: True for here in starts}
    ways = [(start,) for start in starts]
    while len(ways) > 0:
        longer = []
        for way in list(ways):
            if way[-1] in goals:
                return way
            for there in steps_from(amounts, way[-1]):
                if there not in seen:
                    seen[there] = True
                    longer.append(way + (there,))
        ways = longer
    return None


def above_nought(numbers):
    return [here for here, number in enumerate(numbers) if number > 0]


def most_along(pairs, gives, takes):
    """Amounts of the greatest sum such that no case gives more than it has to give, or takes more than it lacks."""
    amounts = {unused: 0 for unused in pairs}
    rest, lack = list(gives), list(takes)
    way = way_between(amounts, above_nought(rest), above_nought(lack))
    while way is not None:
        steps = list(zip(way, way[1:]))
        back = [(d, c) for c, d in steps[1::2]]
        more = min([rest[way[0]], lack[way[-1]]] + [amounts[step] for step in back])
        for pair in steps[0::2]:
            amounts[pair] = amounts[pair] + more
        for pair in back:
            amounts[pair] = amounts[pair] - more
        rest[way[0]] = rest[way[0]] - more
        lack[way[-1]] = lack[way[-1]] - more
        way = way_between(amounts, above_nought(rest), above_nought(lack))
    return amounts


def sum_along(pairs, gives, takes):
    """The greatest sum itself."""
    amounts = most_along(pairs, gives, takes)
    return sum([amounts[pair] for pair in amounts])
