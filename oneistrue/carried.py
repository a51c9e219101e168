"""Who gives and takes, what hangs together by disputes, and dealings carried to other courts."""

from oneistrue.best import best_table
from oneistrue.bundles import hung_by
from oneistrue.dealchecker import is_dealing
from oneistrue.forests import pairs_in
from oneistrue.merging import merged
from oneistrue.quotients import plus
from oneistrue.tables import pulls_of
from oneistrue.usable import need


def best_pulls(court):
    return pulls_of(court, best_table(court))


def givers_of(court):
    return tuple([here for here, pull in enumerate(best_pulls(court)) if pull[0] > 0])


def takers_of(court):
    return tuple([here for here, pull in enumerate(best_pulls(court)) if pull[0] < 0])


def hung_lots(court, dealing):
    need(is_dealing(court, dealing), "dealing")
    return hung_by(len(court), pairs_in(dealing))


def merged_dealing(court, dealing):
    need(is_dealing(court, dealing), "dealing")
    places = merged(court)[1]
    amounts = {}
    for d, c, amount in dealing:
        place = (places[d], places[c])
        amounts[place] = plus(amounts.get(place, (0, 1)), amount)
    return tuple([pair + (amounts[pair],) for pair in sorted(amounts)])


def turned_dealing(court, dealing):
    need(is_dealing(court, dealing), "dealing")
    return tuple(sorted([(c, d, amount) for d, c, amount in dealing]))
