"""[The interface] Names, parameters, and the files in which they are defined."""

import importlib
import inspect
import pathlib
import re

from tests.support import Case

FUNCTIONS = """
kinds: is_integer(thing), is_number(thing), is_quotient(thing), is_set(size, thing), is_table(size, thing)
kinds: is_holding(many, thing)
quotients: quotient_of(top, bottom), plus(one, other), minus(one, other), times(one, other), over(one, other)
quotients: is_less(one, other), raised(one, many), total(quotients)
courtchecker: lets_court(thing), is_court(thing)
courts: weight_of(court, lot), holding_of(court, side, here), exhibits_of(court, side), rights_of(court)
courts: mean_right(court), is_even(court), kept(court, lot)
changes: with_weight(court, here, weight), with_right(court, here, right), with_factors(court, here, factors)
changes: with_grade(court, side, here, exhibit, grade), with_sight(court, here, sight)
merging: merged(court), halved(court, here, weight), renamed(court, places), turned(court)
conditions: is_condition(counts, thing), holds(counts, condition, marks), either(counts, condition, more)
conditions: both(counts, condition, more)
folders: lets_folder(thing), cases_of(folder), court_of(folder)
foldertexts: folder_text(folder), read_folder(text)
courttexts: court_text(court), read_court(text)
courtclasses: court_from(text)
telling: holding_within(one, other), can_tell(court, side, here, there), stories_of(court, side, here)
telling: tellers_of(court, plea, reply)
hiding: hides(court, here, there), order_of(court), under_of(court, here), over_of(court, there)
classes: classes_of(court), ties_of(court), closed_pairs(size, pairs), is_order(size, thing)
lots: is_upper(court, lot), is_lower(court, lot), upper_of(court, lot), lower_of(court, lot), uppers_of(court)
lots: many_lots(court)
exhibits: left_out(court, side, exhibit), needless_of(court), struck(court)
orders: same_order(court, other), parting(court, other), lets_parting(court, other, thing)
twins: claimant_twin(court), defendant_twin(court), blank_court(size, pairs)
meetings: meeting(court, here, there), may_meet(court, here, there)
bundles: bundles_of(court), sights_of(court), joined(court, other)
leans: wrong_at(court, here, award), lean_at(court, here, award), bend_at(court, here, award, to)
levels: level_of(court, lot), level_by(court, weights)
tables: is_rising(court, table), first_fall(court, table), pulls_of(court, table), wrong_of(court, table)
tables: pull_of(court, table, lot)
best: best_table(court), least_wrong(court), off_share(court)
pools: pools_of(court), pool_at(court, here), steps_of(court)
strains: strain_of(court, lot, stake), smallest_lot(court, stake), largest_lot(court, stake)
strains: strained_lots(court, stake)
cuts: cut_lot(court, lot, stake), cut_all(court, stakes), cut_down(court)
maxmins: common_level(court, upper, lower), best_lots(court, here), bottom_award(court), top_award(court)
limited: best_between(court, least, most), shifted(court, by), scaled(court, by)
dealchecker: lets_dealing(court, table, thing), is_dealing(court, thing)
dealing: dealing_of(court), deal_out(court, table)
forests: ring_of(court, dealing), forest_of(court, dealing)
disputes: least_deal(court, here, there), greatest_deal(court, here, there), open_disputes(court)
disputes: sure_disputes(court), is_only(court)
mixes: mixed(court, dealing, more, part), dealing_with(court, here, there, amount)
prices: price_of(court, table), price_parts(court, dealing, table), dispute_wrongs(court, dealing)
tablepapers: table_paper(court, table), lets_table(court, table, thing)
measures: power_wrong(court, table, many), power_parts(court, dealing, table, many)
carried: givers_of(court), takers_of(court), hung_lots(court, dealing), merged_dealing(court, dealing)
carried: turned_dealing(court, dealing)
bounds: low_award(court, table, sight, shown, counter), high_award(court, table, sight, shown, counter)
bounds: is_bounded(court, table, sight, shown, counter, award)
plans: pleas_of(court, dealing), replies_of(court, dealing)
hearings: told_award(court, dealing, plea, reply), hearing_of(court, dealing)
hearingkinds: is_row(court, side, here, thing), is_hearing(court, thing)
outcomes: pair_weights(court, hearing, plea, reply), mean_award(court, hearing, here), table_from(court, hearing)
outcomes: spread_of(court, hearing, here)
beliefs: belief_of(court, hearing, plea, reply)
gains: best_mean(court, hearing, side, here), gain_of(court, hearing, side, here), first_gain(court, hearing)
hearingchecker: lets_hearing(court, thing)
back: dealing_back(court, hearing)
lies: lies_of(court, hearing), idle_lies(court, hearing), lie_share(court, hearing)
saddles: is_saddle(court, hearing, here, plea, reply), first_worth(court, hearing, side, here)
saddles: first_open(court, hearing)
showings: shown_award(court, dealing, sight, plea, counter), shown_mean(court, dealing, here, side, shown)
unseen: unseen_worth(rows)
treechecker: lets_tree(court, thing), is_tree(court, thing)
treeworths: tree_worth(court, tree, here), tree_table(court, tree), option_of(court, tree, here)
treeends: ends_of(court, tree, here), tree_wrong(court, tree)
treemaking: tree_for(court, table), many_ends(tree)
rulechecker: lets_rule(court, thing), is_rule(court, thing), rule_award(court, rule, sight, shown, counter)
ruleplays: showings_of(holding), rule_worth(court, rule, side, here), rule_table(court, rule, side)
ruleplays: first_showing(court, rule, side, here)
rulemending: low_rule(court, table), cut_award(court, rule, table, sight, shown, counter)
rulemending: first_harm(court, rule, side)
badpairs: bad_pairs(court), is_right(court), first_bad(court)
sheets: is_sheet(court, thing), opened(court, sheet, facts), tells_apart(court, sheet, facts, here, there)
fewest: open_pair(court, sheet, facts), fewest_facts(court, sheet), fewest_paper(court, sheet)
fewest: lets_fewest(court, sheet, thing)
cheapest: cheapest_facts(court, sheet, costs)
helps: opening_help(court, sheet, facts), exhibit_help(court, side, exhibit), sight_help(court), best_fact(court, sheet)
givings: with_new(court, side, grades), new_help(court, side, grades), first_cut(court, dealing, side, grades)
givings: grade_change(court, side, here, exhibit, grade)
spans: right_span(court, here), weight_span(court, here), in_span(span, award)
poolmoves: same_pools(court, other), pool_table(court, lots)
edits: first_break(court, dealing, other), stays(court, dealing, other)
dice: is_die(thing), told_by(row, die), dice_counts(row, many)
letters: letter(court, hearing, side, plea, reply)
liveevents: is_event(thing), refusal_of(court, event)
ledgers: paid_of(files), wrong_in(files), lies_in(files)
tallies: tally_of(court, files), awards_of(court, files)
replaying: replayed(court, log)
eventtexts: event_line(event), log_text(log)
eventreadings: read_event(text), read_log(text)
desk: desk_answers(text)
"""

CLASSES = {
    ("courtclasses", "Court", ("court",)): {"having": ["lot"], "turning": []},
    ("orderclasses", "Order", ("court",)): {
        "lies_in": ["other"], "under": ["here"], "over": ["there"], "lifted": ["lot"], "sunk": ["lot"],
    },
    ("tableclasses", "Table", ("court", "table")): {
        "at_most": ["other"], "moved": ["lot", "by"], "least_of": ["other"], "greatest_of": ["other"],
        "cut_off": ["least", "most"],
    },
    ("dealclasses", "Deal", ("court", "dealing")): {
        "__call__": ["here", "there"], "__add__": ["other"], "out_of": ["here"], "into": ["there"], "woods": [],
    },
    ("hearingclasses", "Hearing", ("court", "hearing")): {
        "__call__": ["plea", "reply"], "mean": ["here"], "belief": ["plea", "reply"], "swapped": [],
    },
    ("helpclasses", "Help", ("court", "sheet")): {"seen": ["facts"], "gain": ["facts"], "cheapest": ["costs"]},
    ("live", "LiveDesk", ("court",)): {
        "go": ["event"], "hear": ["here", "ours", "theirs"], "set_weight": ["here", "weight"], "set_right": ["here", "right"],
        "set_grade": ["side", "here", "exhibit", "grade"], "set_sight": ["here", "sight"], "tried": ["event"],
        "undo": ["steps"], "do_all": ["events", "keep"],
    },
    ("ruleclasses", "Rule", ("court", "rule")): {
        "__call__": ["sight", "shown", "counter"], "worths": ["side"], "bounded": ["side", "sight", "shown", "counter"],
    },
}

PROPERTIES = {
    "Court": ("inner", "weights", "rights", "as_text"), "Order": ("inner", "pairs", "classes", "ties"),
    "Table": ("inner", "pulls", "wrong", "rises"), "Deal": ("inner", "disputes", "wrongs"),
    "Hearing": ("inner", "gives", "true_sides", "is_fair"), "Rule": ("inner", "rows_in", "fallback_award"),
    "Help": ("inner", "bad", "fewest", "spans_of_rights"),
    "LiveDesk": ("court_now", "table_now", "dealing_now", "hearing_now", "files", "log", "kept_deals"),
}
# What the interface says of len, in, [..], == and +, each in the class itself.
SIGNS = {
    "Court": ("__len__", "__iter__", "__contains__", "__eq__", "__getitem__", "__add__"),
    "Order": ("__len__", "__contains__", "__eq__"), "Table": ("__len__", "__iter__", "__getitem__", "__eq__"),
    "Deal": ("__len__", "__iter__", "__contains__", "__eq__", "__add__", "__call__"),
    "Hearing": ("__len__", "__eq__", "__call__"), "Rule": ("__len__", "__eq__", "__call__"), "Help": ("__len__", "__eq__"),
    "LiveDesk": (),
}


def listed():
    """Triples (module, name, parameters) of the functions."""
    for row in FUNCTIONS.strip().split("\n"):
        module, rest = row.split(": ")
        for part in rest.split("), "):
            name, inside = part.rstrip(")").split("(")
            yield module, name, inside.split(", ")


class InterfaceTest(Case):
    def test_functions(self):
        for module, name, parameters in listed():
            with self.subTest(name=name):
                function = getattr(importlib.import_module("oneistrue." + module), name)
                self.assertTrue(inspect.isfunction(function))
                self.assertEqual(function.__module__, "oneistrue." + module)
                self.assertEqual(list(inspect.signature(function).parameters), parameters)

    def test_classes(self):
        for (module, name, made_of), methods in CLASSES.items():
            kind = getattr(importlib.import_module("oneistrue." + module), name)
            self.assertEqual(kind.__module__, "oneistrue." + module)
            self.assertEqual(list(inspect.signature(kind).parameters), list(made_of))
            for method, parameters in methods.items():
                self.assertIn(method, vars(kind))
                self.assertEqual(list(inspect.signature(vars(kind)[method]).parameters), ["self"] + parameters)
            for prop in PROPERTIES[name]:
                self.assertIsInstance(vars(kind)[prop], property)
            for sign in SIGNS[name]:
                self.assertTrue(inspect.isfunction(vars(kind)[sign]))
            self.assertEqual(kind.__bases__, (object,))

    def test_the_whole_list(self):
        """Each name of the headings of the document, where it is there to be read."""
        document = pathlib.Path(__file__).resolve().parents[2] / "shared" / "DOC.md"
        if not document.exists():
            return
        named = set()
        for heading in re.findall("^### (.*)$", document.read_text("utf-8"), re.M):
            module = re.search(r"\(module (\w+)\)", heading)
            if module:
                # Classes begin with a great letter.
                named |= {(module[1], name) for name in re.findall(r"(\w+)\(", heading) if name[0].islower()}
        self.assertEqual(named, {(module, name) for module, name, _ in listed()})
