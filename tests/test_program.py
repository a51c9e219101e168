"""[2], [3], [11], [12] over the whole program: each name by position and by name, twice, with nothing changed, at the limits."""

import importlib
import random
from fractions import Fraction

from oneistrue.best import best_table
from oneistrue.courtclasses import Court
from oneistrue.courttexts import court_text
from oneistrue.dealclasses import Deal
from oneistrue.dealing import dealing_of
from oneistrue.errors import CourtError
from oneistrue.eventtexts import event_line, log_text
from oneistrue.folders import court_of
from oneistrue.foldertexts import folder_text
from oneistrue.fewest import fewest_paper
from oneistrue.hearingclasses import Hearing
from oneistrue.hearings import hearing_of
from oneistrue.helpclasses import Help
from oneistrue.hiding import order_of
from oneistrue.limited import shifted
from oneistrue.live import LiveDesk
from oneistrue.orderclasses import Order
from oneistrue.ruleclasses import Rule
from oneistrue.tableclasses import Table
from oneistrue.tablepapers import table_paper
from oneistrue.treemaking import tree_for
from tests import support
from tests.support import COIN, COPY, PAIR, SEEN, Case, all_alike, chain, quotient, unlike
from tests.test_facts import made_sheet
from tests.test_interface import PROPERTIES, listed
from tests.test_live import some_logs
from tests.test_rules import is_small, made_rule
from tests.test_trees import full_tree, made_tree

WIDE = 10 ** 15


def limit_court(seed, size, exhibits, grades, sights):
    """A court with all that [12] lets: so many exhibits a side, weights and factors of sixty, tops and bottoms of 10 ** 15."""
    dice = random.Random(seed)
    rights = [quotient(Fraction(dice.randint(-WIDE, WIDE), dice.randint(1, WIDE))) for _ in range(size)]
    return tuple(
        (dice.randint(1, 60), right, (dice.randint(1, 60), dice.randint(1, 60)), tuple(
            tuple(dice.randint(0, grades) for _ in range(many)) for many in exhibits
        ), dice.choice(sights)) for right in rights
    )


def limit_folder(seed):
    """A folder of sixteen lines, of six alternatives of six triples, over sixty-four tuples of marks less one."""
    dice = random.Random(seed)
    facts = ((60, 1), (7, 3), (1, 1, 2, 4))
    triples = lambda: tuple((dice.randrange(3), dice.random() < 0.5, dice.randrange(2)) for _ in range(6))
    words = ("weight", 60), ("up", 60), ("down", 7), ("right", (-WIDE, WIDE - 1)), ("claimant", (3, 3)), ("defendant", (3, 2)), ("sight", 9)
    lines = [("out", 0, (((0, True, 0), (1, True, 0)),))]
    while len(lines) < 16:
        lines.append(dice.choice(words) + (tuple(triples() for _ in range(6)),))
    return facts, tuple(lines)


EIGHT = (
    limit_court(1, 8, (4, 4), 1, (0, 10 ** 6)), limit_court(2, 8, (4, 4), 3, (10 ** 6,)), limit_court(3, 8, (0, 1), 1, (3,)),
    all_alike(61), unlike(61), chain(61),
)
SIX = (
    limit_court(4, 6, (4, 4), 1, (0, 10 ** 6)), limit_court(5, 6, (2, 1), 3, (10 ** 6,)), limit_court(6, 6, (0, 1), 1, (3,)),
    all_alike(62, 6), unlike(62, 6), chain(62, 6),
)
PLAIN = (PAIR, COPY, SEEN, COIN, support.MIXED, support.FOUR)


def for_six(name, parameters):
    """Whether the function is one for courts of at most six cases."""
    passed = {"hearing", "tree", "rule"} & set(parameters)
    return passed or name in (
        "hearing_of", "told_award", "shown_award", "shown_mean", "tree_for", "low_rule", "is_row", "is_hearing", "lets_hearing",
        "lets_tree", "is_tree", "lets_rule", "is_rule", "replayed", "many_ends", "pleas_of", "replies_of",
    )


def shared(court, dice):
    """Values by the name of a parameter, for this court."""
    size = len(court)
    ours, theirs = court[-1][3]
    best = best_table(court)
    dealing = dealing_of(court)
    side = 0 if ours else 1
    sheet = made_sheet(dice, court, 5)
    hearing = hearing_of(court, dealing) if size <= 6 else None
    desk = LiveDesk(court)
    if size <= 6:
        desk.hear(size - 1, (0, 1), (99, 100))
        desk.hear(0, (1, 2), (1, 3))
    return {
        "court": court, "side": side, "here": size - 1, "there": 0, "plea": 0, "reply": 0, "lot": tuple(range(0, size, 2)),
        "table": best, "dealing": dealing, "more": dealing, "hearing": hearing, "exhibit": 0, "sight": court[-1][4], "grade": 3,
        "many": 3, "stake": best[0], "award": (1 - WIDE, WIDE), "to": (WIDE, 1), "by": (WIDE, 7), "part": (1, WIDE),
        "amount": (0, 1), "shown": ours, "counter": theirs, "other": court, "stakes": best[:2] + ((0, 1),), "least": (-1, 3),
        "most": (1, 3), "upper": tuple(range(size)), "lower": tuple(range(size)), "weights": tuple((1, here + 1) for here in range(size)),
        "weight": 60, "right": (-WIDE, WIDE - 1), "factors": (60, 60), "places": tuple(range(size))[::-1], "sheet": sheet,
        "facts": (0, 2, 4), "costs": (0, 60, 3, 3, 1), "grades": tuple(range(size)), "lots": (tuple(range(size)),),
        "tree": full_tree(dice, court, "side", 8) if dice.random() < 0.5 else made_tree(dice, court),
        "rule": made_rule(dice, court, 8), "event": ("weight", size - 1, 60), "files": desk.files,
        "log": (("right", 0, (WIDE, 1)), ("sight", size - 1, 10 ** 6)), "story": 0,
    }


def own_values(court, common):
    """Values that functions want for themselves, by their names."""
    size = len(court)
    tall = shifted(court, (WIDE, 1))
    row = ((1, 3), (0, 1), (2, 3))
    values = {
        "is_integer": {"thing": 7}, "is_number": {"thing": True}, "is_quotient": {"thing": (2, 4)}, "is_die": {"thing": (1, 2)},
        "is_set": {"size": size, "thing": (0,)}, "is_table": {"size": size, "thing": common["table"]},
        "is_holding": {"many": 2, "thing": (0, 3)}, "quotient_of": {"top": WIDE, "bottom": -WIDE}, "total": {"quotients": common["table"]},
        "raised": {"one": (3, 2), "many": 60}, "holding_within": {"one": (1, 2), "other": (1, 3)}, "told_by": {"row": row, "die": (1, 3)},
        "dice_counts": {"row": row, "many": 60}, "showings_of": {"holding": (3, 3, 3, 3)}, "closed_pairs": {"size": 10, "pairs": ((0, 9), (9, 8))},
        "is_order": {"size": 10, "thing": ((0, 9),)}, "blank_court": {"size": 10, "pairs": ((0, 9),)},
        "unseen_worth": {"rows": (((1, 2), (WIDE, 1)), ((3, 1), (-1, WIDE)))}, "is_condition": {"counts": (2, 3), "thing": (((1, False, 2),),)},
        "holds": {"counts": (2, 3), "condition": (((1, False, 2),),), "marks": (0, 1)},
        "either": {"counts": (2,), "condition": ((),), "more": (((0, True, 1),),)}, "both": {"counts": (2,), "condition": ((),), "more": ((),)},
        "lets_court": {"thing": court}, "is_court": {"thing": None}, "lets_folder": {"thing": limit_folder(1)},
        "cases_of": {"folder": limit_folder(2)}, "court_of": {"folder": limit_folder(3)}, "folder_text": {"folder": limit_folder(4)},
        "read_folder": {"text": folder_text(limit_folder(5))}, "read_court": {"text": court_text(court)}, "court_from": {"text": court_text(court)},
        "lets_parting": {"court": court, "other": court, "thing": None}, "lets_dealing": {"court": court, "table": common["table"], "thing": common["dealing"]},
        "is_dealing": {"court": court, "thing": common["dealing"]},
        "lets_table": {"court": court, "table": common["table"], "thing": table_paper(court, common["table"])},
        "power_wrong": {"court": tall, "table": best_table(tall), "many": 4},
        "power_parts": {"court": tall, "dealing": dealing_of(tall), "table": best_table(tall), "many": 3},
        "is_row": {"thing": common["hearing"] and common["hearing"][0][0]}, "is_hearing": {"thing": common["hearing"]},
        "lets_hearing": {"thing": common["hearing"]}, "lets_tree": {"thing": common["tree"]}, "is_tree": {"thing": common["tree"]},
        "lets_rule": {"thing": common["rule"]}, "is_rule": {"thing": common["rule"]}, "is_sheet": {"thing": common["sheet"]},
        "lets_fewest": {"court": court, "sheet": common["sheet"], "thing": fewest_paper(court, common["sheet"])},
        "is_event": {"thing": common["event"]}, "event_line": {"event": common["event"]}, "read_event": {"text": event_line(common["event"])},
        "read_log": {"text": log_text(common["log"])}, "desk_answers": {"text": court_text(court) + "\n\n" + log_text(common["log"]) + "\nkept"},
        "halved": {"weight": 1}, "is_saddle": {"plea": size - 1, "reply": size - 1},
        "shown_award": {"plea": common["shown"], "counter": common["counter"]},
        "shown_mean": {"shown": court[-1][3][common["side"]]}, "in_span": {"span": ((common["award"], True), None)}, "level_by": {"weights": common["weights"]},
    }
    for name in ("plus", "minus", "times", "over", "is_less"):
        values[name] = {"one": (WIDE, WIDE - 1), "other": (-1, WIDE)}
    return values


def is_plain(thing):
    """Integers, bools, None, strings, and tuples of these."""
    if type(thing) is tuple:
        return all(is_plain(part) for part in thing)
    return thing is None or type(thing) in (int, bool, str)


def shape(thing):
    """What a result is, so that two can be compared: objects by their properties."""
    name = type(thing).__name__
    if name in PROPERTIES and not is_plain(thing):
        return name, tuple(repr(getattr(thing, prop)) for prop in PROPERTIES[name])
    assert is_plain(thing), thing
    return repr(thing)


def outcome(function, *args, **named):
    try:
        return shape(function(*args, **named))
    except CourtError as error:
        return type(error).__name__, repr(vars(error))


def calls(court, seed):
    """Triples (name, function, values by parameter) for all functions that may be asked of the court."""
    common = shared(court, random.Random(seed))
    own = own_values(court, common)
    for module, name, parameters in listed():
        if len(court) <= 6 or not for_six(name, parameters):
            if not (name in ("first_harm", "rule_worth", "rule_table", "first_showing", "cut_award") and not is_small(court)):
                values = {**common, **own.get(name, {})}
                yield name, getattr(importlib.import_module("oneistrue." + module), name), {key: values[key] for key in parameters}


class ProgramTest(Case):
    def test_each_function(self):
        answered = set()
        for at, court in enumerate(PLAIN + EIGHT + SIX):
            for name, function, values in calls(court, at):
                with self.subTest(name=name, court=court):
                    before = repr(values)
                    result = outcome(function, *values.values())
                    self.assertEqual(outcome(function, **values), result)
                    self.assertEqual(outcome(function, **dict(reversed(values.items()))), result)
                    self.assertEqual(outcome(function, *values.values()), result)
                    self.assertEqual(repr(values), before)
                    if not isinstance(result, tuple) or result[0] in PROPERTIES:
                        answered.add(name)
        # Each one answers somewhere.
        self.assertEqual({name for _, name, _ in listed()} - answered, {"lets_parting"})
        self.assertEqual(outcome(importlib.import_module("oneistrue.orders").lets_parting, PAIR, SEEN, (0, 1, ((0, 1), (1, 1)))), "1")

    def test_at_the_limits(self):
        """Courts of eight and of six cases are answered, but where a case, an exhibit or a pair is not there."""
        refused = set()
        for at, court in enumerate(EIGHT + SIX):
            for name, function, values in calls(court, at):
                result = outcome(function, *values.values())
                if isinstance(result, tuple) and result[0] not in PROPERTIES:
                    refused.add((name, result))
        told = {name for name, _ in refused}
        self.assertTrue(told <= {"lets_parting", "halved", "meeting"}, refused)

    def test_objects_twice(self):
        for court in PLAIN + SIX:
            dealing = dealing_of(court)
            sheet = made_sheet(random.Random(3), court, 5)
            for made in (
                lambda: Court(court), lambda: Order(court), lambda: Table(court, best_table(court)), lambda: Deal(court, dealing),
                lambda: Hearing(court, hearing_of(court, dealing)), lambda: Rule(court, made_rule(random.Random(1), court, 8)),
                lambda: Help(court, sheet), lambda: LiveDesk(court),
            ):
                one, other = made(), made()
                for _ in range(2):
                    self.assertEqual(shape(one), shape(other))
                if not isinstance(one, LiveDesk):
                    self.same(one == other, True)

    def test_what_was_returned_goes_in_again(self):
        """[2]: values that the package returned may be passed in again."""
        for court in PLAIN + SIX:
            again = court_of(limit_folder(7))
            self.assertLessEqual(len(order_of(again)), 64 * 63)
            self.same(importlib.import_module("oneistrue.courtchecker").lets_court(again), len(again))
            for made in ("claimant_twin", "defendant_twin"):
                twin = getattr(importlib.import_module("oneistrue.twins"), made)(court)
                self.same(best_table(twin), best_table(court))
                self.same(order_of(twin), order_of(court))
            tree = tree_for(court, best_table(court))
            self.same(importlib.import_module("oneistrue.treeworths").tree_table(court, tree), best_table(court))

    def test_a_live_desk_at_the_limits(self):
        for court, log, _ in some_logs(351, 40, SIX):
            desk = LiveDesk(court)
            results = desk.do_all(log, keep=False)
            self.assertEqual(len(results), 40)
            self.assertTrue(is_plain(results))
            self.same(results, LiveDesk(court).do_all(log, keep=True))
