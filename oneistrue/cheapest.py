"""The cheapest facts that part all bad pairs."""

from oneistrue.fewest import sets_of, unparted
from oneistrue.kinds import is_holding
from oneistrue.sheets import is_sheet
from oneistrue.usable import need


def cheapest_facts(court, sheet, costs):
    need(is_sheet(court, sheet), "sheet")
    need(is_holding(len(sheet[0]), costs), "costs")
    sets = [facts for many in range(len(costs) + 1) for facts in sets_of(sheet, many)]
    found = [
        (sum([costs[fact] for fact in facts]), facts) for facts in sets if unparted(court, sheet, facts) is None
    ]
    if len(found) == 0:
        return None
    return min(found)
