"""Every example of the document for what has landed, as it stands there."""

import ast
import importlib
import pathlib
import re

from oneistrue.errors import CourtError
from tests.support import Case
from tests.test_interface import CLASSES, listed

EXAMPLES = """
    >>> PAIR = ((1, (0, 1), (1, 1), ((1,), ()), 0), (1, (1, 1), (1, 1), ((0,), ()), 0))
    >>> COPY = ((1, (0, 1), (1, 1), ((1,), (1,)), 0), (1, (1, 1), (1, 1), ((0,), (0,)), 0))
    >>> SEEN = ((1, (0, 1), (1, 1), ((), ()), 0), (1, (1, 1), (1, 1), ((), ()), 1))
    >>> COIN = ((1, (0, 1), (1, 1), ((1, 0), ()), 0), (1, (0, 1), (1, 1), ((0, 1), ()), 0), (1, (3, 1), (1, 1), ((0, 0), ()), 0))
    >>> quotient_of(4, -6), over((1, 2), (-3, 4)), total(())
    ((-2, 3), (-2, 3), (0, 1))
    >>> lets_court((COIN[0], PAIR[0], None))
    InvalidPaper: ("holdings", 1)
    >>> merged((PAIR[1], PAIR[0], PAIR[1]))
    (((2, (1, 1), (1, 1), ((0,), ()), 0), (1, (0, 1), (1, 1), ((1,), ()), 0)), (0, 1, 0))
    >>> both((2,), (((0, True, 1),), ()), (((0, False, 0),),))
    (((0, True, 1), (0, False, 0)), ((0, False, 0),))
    >>> STEP = (((3, 1), (1, 1)), (("out", 0, (((0, True, 1), (1, True, 1)),)), ("claimant", (0, 2), (((0, True, 0),),))))
    >>> court_of(STEP)
    ((3, (0, 1), (1, 1), ((2,), ()), 0), (3, (0, 1), (1, 1), ((2,), ()), 0), (1, (0, 1), (1, 1), ((0,), ()), 0))
    >>> folder_text(STEP)
    'facts 3,1 1,1\\nout 0 0=1&1=1\\nclaimant 0:2 0=0'
    >>> read_folder("facts 1\\nright 2/4 -")
    InvalidText: (1, 1)
    >>> court_text(SEEN)
    '1 0/1 1,1 - - 0\\n1 1/1 1,1 - - 1'
    >>> can_tell(PAIR, 0, 0, 1), can_tell(PAIR, 0, 1, 0), can_tell(PAIR, 1, 1, 0)
    (True, False, True)
    >>> stories_of(COIN, 0, 0), stories_of(COIN, 1, 0)
    ((0, 2), (0, 1, 2))
    >>> tellers_of(PAIR, 0, 1), tellers_of(SEEN, 0, 1)
    ((0,), ())
    >>> order_of(PAIR), order_of(COPY), order_of(COIN)
    (((0, 1),), (), ((0, 2), (1, 2)))
    >>> under_of(COIN, 0), over_of(COIN, 0), over_of(COIN, 2)
    ((0, 2), (0,), (0, 1, 2))
    >>> classes_of(COIN), ties_of(COIN)
    (((0,), (1,), (2,)), ((0, 2), (1, 2)))
    >>> closed_pairs(3, ((0, 1), (1, 0), (1, 2)))
    ((0, 1), (0, 2), (1, 0), (1, 2))
    >>> is_order(3, ((0, 1), (1, 2))), is_order(3, ())
    (False, True)
    >>> is_upper(COIN, (0, 2)), is_lower(COIN, (0, 2)), upper_of(COIN, (2,)), lower_of(COIN, (0,))
    (False, True, (0, 1, 2), (0, 2))
    >>> uppers_of(COIN), many_lots(SEEN)
    (((), (0,), (0, 1), (0, 1, 2), (1,)), 4)
    >>> TWO = ((1, (0, 1), (1, 1), ((1, 1), ()), 0), (1, (1, 1), (1, 1), ((0, 0), ()), 0))
    >>> needless_of(TWO), struck(TWO)[1], struck(TWO)[0][0][3]
    (((0, 0), (0, 1)), ((0, 0),), ((0, 1), ()))
    >>> same_order(PAIR, SEEN), lets_parting(PAIR, SEEN, (0, 1, ((0, 1), (1, 1))))
    (False, 1)
    >>> claimant_twin(PAIR)[0][3], claimant_twin(PAIR)[1][3], defendant_twin(PAIR)[0][3]
    (((1, 1), ()), ((0, 1), ()), ((), (1, 0)))
    >>> meeting(COIN, 0, 2)[1][1], may_meet(COIN, 2, 0), may_meet(COIN, 2, 2)
    ((1, 2), False, False)
    >>> bundles_of(COIN), bundles_of(SEEN), joined(PAIR, SEEN)[2]
    (((0, 1, 2),), ((0,), (1,)), (1, (0, 1), (1, 1), ((0,), ()), 1))
    >>> one = Order(COIN)
    >>> len(one), (0, 2) in one, (0, 1) in one, one.under(1), one.lies_in(Order(SEEN))
    (2, True, False, (1, 2), False)
    >>> CHAIN = ((1, (0, 1), (1, 1), ((2,), ()), 0), (1, (3, 1), (1, 1), ((1,), ()), 0), (1, (1, 1), (1, 1), ((0,), ()), 0))
    >>> STEEP = ((1, (0, 1), (2, 1), ((1,), ()), 0), (1, (1, 1), (1, 1), ((0,), ()), 0))
    >>> wrong_at(STEEP, 0, (1, 2)), wrong_at(STEEP, 1, (1, 2))
    ((1, 2), (1, 4))
    >>> lean_at(STEEP, 0, (1, 2)), lean_at(STEEP, 1, (1, 2))
    ((1, 1), (-1, 2))
    >>> bend_at(STEEP, 0, (-1, 1), (1, 1))
    (5, 1)
    >>> level_of(STEEP, (0, 1)), level_of(CHAIN, (1, 2))
    ((1, 3), (2, 1))
    >>> level_by(STEEP, ((1, 2), (3, 1)))
    (3, 4)
    >>> first_fall(CHAIN, ((2, 1), (1, 1), (3, 1)))
    (0, 2)
    >>> pulls_of(STEEP, ((1, 3), (1, 3))), wrong_of(STEEP, ((1, 3), (1, 3)))
    (((2, 3), (-2, 3)), (2, 3))
    >>> best_table(STEEP), best_table(CHAIN)
    (((1, 3), (1, 3)), ((3, 2), (3, 2), (1, 1)))
    >>> least_wrong(CHAIN), off_share(CHAIN)
    ((9, 2), (2, 3))
    >>> FLAT = (SEEN[0], (1, (0, 1), (1, 1), ((), ()), 1))
    >>> pools_of(CHAIN), pools_of(FLAT), steps_of(FLAT)
    (((0, 1), (2,)), ((0,), (1,)), (((0, 1), (0, 1)),))
    >>> steps_of(CHAIN)
    (((1, 1), (2,)), ((3, 2), (0, 1)))
    >>> strain_of(CHAIN, (0,), (1, 1)), strain_of(CHAIN, (0, 1), (1, 1))
    ((1, 1), (-1, 1))
    >>> strained_lots(CHAIN, (3, 2)), strained_lots(COIN, (1, 1))
    (((), (0, 1)), ((), (0, 1, 2)))
    >>> cut_lot(CHAIN, (1, 2), (2, 1)), cut_lot(CHAIN, (0, 1), (3, 2))
    (((1,), (2,)), ((0, 1), ()))
    >>> cut_all(CHAIN, ((1, 1), (5, 4)))
    ((0, 1), (2,))
    >>> cut_down(CHAIN)
    (((0, 1), (3, 2)), ((2,), (1, 1)))
    >>> common_level(CHAIN, (0, 1), (1, 2)), best_lots(CHAIN, 2)
    ((3, 1), ((0, 1, 2), (2,)))
    >>> best_between(CHAIN, (0, 1), (5, 4)), best_between(CHAIN, (2, 1), (2, 1))
    (((5, 4), (5, 4), (1, 1)), ((2, 1), (2, 1), (2, 1)))
    >>> CALM, BEST = Table(CHAIN, ((0, 1), (2, 1), (1, 1))), Table(CHAIN, best_table(CHAIN))
    >>> CALM.rises, CALM.at_most(BEST), list(CALM.greatest_of(BEST)), BEST.cut_off((1, 1), (5, 4))[0]
    (False, False, [(3, 2), (2, 1), (1, 1)], (5, 4))
    >>> FOUR = SEEN[:1] + SEEN[:1] + 2 * ((1, (1, 1), (1, 1), ((), ()), 0),)
    >>> ROUND = ((0, 2, (1, 4)), (0, 3, (1, 4)), (1, 2, (1, 4)), (1, 3, (1, 4)))
    >>> HIGH = ((1, (1, 1), (2, 1), ((1,), ()), 0), (1, (4, 1), (1, 1), ((0,), ()), 0))
    >>> sorted(ring_of(FOUR, ROUND)), len(forest_of(FOUR, ROUND))
    ([0, 1, 2, 3], 2)
    >>> least_deal(FOUR, 0, 2), greatest_deal(FOUR, 0, 2), greatest_deal(FOUR, 2, 0)
    ((0, 1), (1, 2), (0, 1))
    >>> dealing_with(FOUR, 0, 2, (1, 8))
    ((0, 2, (1, 8)), (0, 3, (3, 8)), (1, 2, (3, 8)), (1, 3, (1, 8)))
    >>> price_of(PAIR, ((1, 1), (0, 1))), price_parts(PAIR, ((0, 1, (1, 2)),), ((1, 1), (0, 1)))
    ((3, 2), ((1, 2), (1, 1)))
    >>> table_paper(PAIR, ((0, 1), (1, 1))), lets_table(PAIR, ((1, 1), (1, 1)), ("lower", (0, 1)))
    (('falls', 0, 1), False)
    >>> power_wrong(HIGH, ((2, 1), (2, 1)), 3), power_parts(HIGH, ((0, 1, (2, 1)),), ((3, 1), (2, 1)), 3)
    ((42, 1), ((16, 1), (30, 1)))
    >>> hung_lots(FOUR, ((0, 2, (1, 2)), (1, 3, (1, 2)))), merged_dealing(FOUR, ROUND)
    (((0, 2), (1, 3)), ((0, 1, (1, 1)),))
    >>> low_award(PAIR, ((1, 1), (0, 1)), 0, (2,), ()), high_award(PAIR, ((1, 1), (0, 1)), 0, (2,), ())
    ((1, 1), None)
    >>> from oneistrue.plans import replies_of
    >>> replies_of(COIN, ((0, 2, (1, 1)), (1, 2, (1, 1))))
    (((1, 1), (0, 1), (0, 1)), ((0, 1), (1, 1), (0, 1)), ((1, 2), (1, 2), (0, 1)))
    >>> DEALT = ((0, 1, (1, 2)),)
    >>> told_award(PAIR, DEALT, 0, 1)
    (0, 1)
    >>> SAID = hearing_of(PAIR, DEALT)
    >>> SAID[2]
    (((0, 1), (0, 1)), ((1, 2), (1, 1)))
    >>> belief_of(PAIR, SAID, 1, 0), belief_of(PAIR, SAID, 0, 1)
    (((1, 2), (1, 2)), ((1, 1), (0, 1)))
    >>> lets_hearing(PAIR, SAID)
    ((1, 2), (1, 2))
    >>> lets_hearing(PAIR, (SAID[0], SAID[1], (((0, 1), (0, 1)), ((1, 2), (0, 1)))))
    InvalidPaper: ("gain", (0, 1))
    >>> shown_mean(PAIR, DEALT, 0, 0, (0,)), shown_mean(PAIR, DEALT, 1, 1, ())
    ((0, 1), (1, 1))
    >>> Hearing(PAIR, SAID).swapped()(0, 1), len(Hearing(PAIR, SAID))
    ((-1, 2), 1)
    >>> from oneistrue.unseen import unseen_worth
    >>> unseen_worth((((3, 1), (0, 1)), ((1, 1), (2, 1))))
    ((3, 2), (1, 4), (1, 2))
    >>> NEED = ("side", 0, (((0,), ("end", (1, 1))), ((1,), ("end", (2, 1)))))
    >>> lets_tree(PAIR, NEED)
    2
    >>> lets_tree(PAIR, ("see", ((0, NEED),), ("dice", ())))
    InvalidPaper: ("parts", (1,))
    >>> tree_worth(PAIR, NEED, 0), tree_worth(PAIR, NEED, 1), option_of(PAIR, NEED, 0)
    ((2, 1), (1, 1), 1)
    >>> COINS = ("dice", ((1, ("end", (0, 1))), (2, ("end", (1, 1))), (1, ("end", (0, 1)))))
    >>> ends_of(PAIR, COINS, 0), tree_wrong(PAIR, COINS)
    ((((0, 1), (1, 2)), ((1, 1), (1, 2))), (1, 1))
    >>> tree_table(COPY, tree_for(COPY, ((0, 1), (1, 1)))), many_ends(NEED)
    (((0, 1), (1, 1)), 2)
    >>> GIVE = (((0, (1,), (), (2, 1)),), (1, 1))
    >>> showings_of((1, 1)), showings_of(())
    (((0, 0), (0, 1), (1, 0), (1, 1)), ((),))
    >>> rule_table(PAIR, GIVE, 0), first_showing(PAIR, GIVE, 0, 0)
    (((2, 1), (1, 1)), (1,))
    >>> low_rule(PAIR, ((1, 1), (2, 1)))
    Falling: (0, 1)
    >>> cut_award(PAIR, GIVE, ((1, 2), (1, 2)), 0, (1,), ())
    (1, 2)
    >>> first_harm(PAIR, (((0, (1,), (), (0, 1)),), (1, 1)), 0), first_harm(PAIR, GIVE, 0)
    ((0, (0,), (), 0), None)
    >>> bad_pairs(COIN), is_right(SEEN), first_bad(PAIR), first_bad(COPY)
    (((0, 2), (1, 2)), True, (0, 1), None)
    >>> FILM = ((0, 0), (1, 1), (1, 0))
    >>> is_sheet(COIN, FILM), is_sheet(PAIR, ((), ())), is_sheet(PAIR, ((True,), (0,)))
    (True, True, False)
    >>> opened(COIN, FILM, (0,))[2][4], tells_apart(COIN, FILM, (0,), 1, 2)
    (1, False)
    >>> open_pair(COIN, FILM, (0,)), fewest_facts(SEEN, ((), ()))
    ((1, 2), ())
    >>> fewest_paper(COIN, FILM), fewest_paper(PAIR, ((4,), (4,)))
    (('open', (0, 1), ((1, 2), (0, 2))), ('never', 0, 1))
    >>> lets_fewest(COIN, FILM, ("open", (0, 1), ((1, 2), (1, 2))))
    InvalidPaper: ("row", 1)
    >>> cheapest_facts(COIN, ((0, 0, 0), (1, 1, 0), (1, 0, 1)), (2, 3, 6)), cheapest_facts(PAIR, ((), ()), ())
    ((5, (0, 1)), None)
    >>> opening_help(COIN, FILM, (0,)), opening_help(COIN, FILM, (0, 1)), exhibit_help(COPY, 1, 0), sight_help(SEEN)
    ((3, 2), (6, 1), (1, 2), (1, 2))
    >>> best_fact(PAIR, ((7, 1), (7, 0))), best_fact(PAIR, ((), ()))
    (1, None)
    >>> GIVEN = ((0, 2, (1, 1)), (1, 2, (1, 1)))
    >>> with_new(PAIR, 1, (1, 0)) == COPY, new_help(COIN, 1, (1, 0, 0)), first_cut(COIN, GIVEN, 1, (1, 0, 0))
    (True, (3, 2), (0, 2))
    >>> grade_change(PAIR, 0, 1, 0, 2), first_cut(COIN, GIVEN, 0, (1, 1, 1))
    ((-1, 2), None)
    >>> STAIR = ((1, (0, 1), (1, 1), ((2,), ()), 0), (1, (3, 1), (1, 1), ((1,), ()), 0), (1, (1, 1), (1, 1), ((0,), ()), 0))
    >>> right_span(COIN, 0), right_span(COIN, 2)
    ((((-3, 1), True), ((3, 2), True)), (((0, 1), True), None))
    >>> right_span(STAIR, 2), weight_span(STAIR, 1)
    ((None, ((3, 2), False)), (((1, 2), False), None))
    >>> in_span((None, ((3, 2), False)), (3, 2)), in_span((None, None), (-7, 1))
    (False, True)
    >>> same_pools(PAIR, COPY), pool_table(STAIR, ((0, 1), (2,)))
    (False, ((3, 2), (3, 2), (1, 1)))
    >>> PAID = ((0, 1, (1, 2)),)
    >>> first_break(PAIR, PAID, COPY), first_break(PAIR, PAID, COIN), stays(PAIR, PAID, PAIR)
    (('dispute', 0, 1), ('size',), True)
    >>> first_break(SEEN, (), (SEEN[0], SEEN[0]))
    ('fall', 0, 1)
    >>> film = Help(COIN, FILM)
    >>> film.bad, film.fewest, len(film), film.gain((1,)), film.cheapest((4, 1))
    (((0, 2), (1, 2)), (0, 1), 2, (3, 2), (5, (0, 1)))
    >>> told_by(((1, 2), (0, 1), (1, 2)), (1, 2)), dice_counts(((1, 2), (1, 2)), 3)
    (2, (2, 1))
    >>> letter(PAIR, hearing_of(PAIR, dealing_of(PAIR)), 1, 1, 0)
    'To the defendant.\\nYou told case 0, the claimant told case 1.\\nYou pay 1/2.\\nBelief: 0 1/2, 1 1/2.'
    >>> desk = LiveDesk(PAIR)
    >>> desk.hear(0, (0, 1), (1, 3)), desk.set_right(0, (1, 1)), desk.set_sight(1, 4)
    ((0, 1, 0, (1, 2), (1, 4)), ((1, 1), (1, 1)), ((1, 1), (1, 1)))
    >>> desk.set_weight(2, 1)
    InvalidEvent: (("weight", 2, 1), "case")
    >>> desk.undo(2), desk.kept_deals
    ((('right', 0, (1, 1)), ('sight', 1, 4)), 0)
    >>> lies_in(desk.files), tally_of(PAIR, desk.files), awards_of(PAIR, desk.files)
    ((1, 0), (1, 0), ((1, 2), (0, 1)))
    >>> log_text((("hear", 0, (0, 1), (1, 3)), ("grade", 0, 1, 0, 2)))
    'hear 0 0/1 1/3\\ngrade 0 1 0 2'
    >>> read_log("sight 0 1\\nhear 0 0/1 1/1")
    InvalidText: (1, 3)
    >>> desk_answers("1 0/1 1,1 1 - 0\\n1 1/1 1,1 0 - 0\\n\\nhear 0 0/1 1/2\\nsight 1 3\\nlies\\nweight 2 1\\nundo 1\\ntable")
    '1 0 1/2 1/4\\n0/1 1/1\\n1 0\\nrefused case\\nundone 1\\n1/2 1/2'
"""


def run(source, names):
    """What the example gives, written as in the document."""
    try:
        return repr(eval(source, names))
    except CourtError as error:
        fields = tuple(vars(error).values())
        return f"{type(error).__name__}: {fields!r}"


def normal(told):
    """What the document tells, written as repr writes it."""
    error = re.fullmatch(r"(\w+): (\(.*\))", told)
    if error:
        return f"{error[1]}: {ast.literal_eval(error[2])!r}"
    return repr(ast.literal_eval(told))


class ExamplesTest(Case):
    def test_examples(self):
        names = {}
        for module, name, _ in listed():
            names[name] = getattr(importlib.import_module("oneistrue." + module), name)
        for module, name, _ in CLASSES:
            names[name] = getattr(importlib.import_module("oneistrue." + module), name)
        rows = [row.strip() for row in EXAMPLES.strip().split("\n")]
        for at, row in enumerate(rows):
            if not row.startswith(">>> "):
                continue
            source = row.removeprefix(">>> ")
            if re.match(r"[\w, ]+ = |from ", source):
                exec(source, names)
                continue
            with self.subTest(source=source):
                self.assertEqual(run(source, names), normal(rows[at + 1]))

    def test_all_examples(self):
        """Each example of the document stands above, where the document is there to be read."""
        document = pathlib.Path(__file__).resolve().parents[2] / "shared" / "DOC.md"
        if document.exists():
            ours = [row.strip() for row in EXAMPLES.strip().split("\n")]
            theirs = [row.strip() for row in document.read_text("utf-8").split("\n")]
            self.assertEqual([row for row in theirs if row.startswith(">>> ") and row not in ours], [])
            for at, row in enumerate(theirs):
                if row.startswith(">>> ") and theirs[at + 1] and not theirs[at + 1].startswith(">>> "):
                    told = theirs[at + 1].replace("raises ", "")
                    told = re.sub(r"^(\w+)\(", r"\1: (", told)
                    self.assertEqual(ours[ours.index(row) + 1], told)
