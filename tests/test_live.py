"""[85] liveevents, [86] live, [87] ledgers, [88] tallies, [89] replaying; (G11), and [92] as far as it speaks of them."""

import random
from fractions import Fraction

from oneistrue.best import best_table
from oneistrue.courtclasses import Court
from oneistrue.dealing import dealing_of
from oneistrue.dice import dice_counts
from oneistrue.errors import CourtError, InvalidEvent
from oneistrue.hearings import hearing_of
from oneistrue.ledgers import lies_in, paid_of, wrong_in
from oneistrue.live import LiveDesk
from oneistrue.liveevents import is_event, refusal_of
from oneistrue.replaying import replayed
from oneistrue.tables import pulls_of
from oneistrue.tallies import awards_of, tally_of
from tests import support
from tests.support import (
    ANYTHING, CHAIN, COIN, COPY, EXAMPLES, FOUR, HIGH, MIXED, PAIR, SEEN, WRONG_COURTS, WRONG_NUMBERS, WRONG_POSITIVES,
    WRONG_QUOTIENTS, WRONG_SIDES, Case, all_alike, chain, crowded_courts, made_courts, made_right, quotient, unlike, value,
)
from tests.test_letters import WRONG_DICE

FAMILIES = (all_alike(51, 6), unlike(51, 6), chain(51, 6))
COURTS = EXAMPLES + (FOUR, HIGH) + FAMILIES + tuple(made_courts(12, 1, 6, seed=321)) + tuple(crowded_courts(12, 2, 6, seed=322))
PROPERTIES = ("court_now", "table_now", "dealing_now", "hearing_now", "files", "log", "kept_deals")
GOOD = (
    ("hear", 0, (0, 1), (1, 3)), ("weight", 0, 1), ("right", 1, (-7, 2)), ("grade", 1, 0, 0, 3), ("sight", 10 ** 6, 0),
    ("hear", 7, (99, 100), (0, 1)), ("grade", 0, 10 ** 59, 8, 0), ("weight", 0, 10 ** 59),
)


def malformed():
    """Values that are no events: each good one with one part changed, lost or added, and others."""
    wrong = list(ANYTHING) + ["hear 0 0/1 1/2", ("hear",), ("grade",), ("undo", 1), ("table",), (None, 0, 1), (["sight"], 0, 1)]
    for event in GOOD:
        wrong += [event[:-1], event + (0,), list(event), (event[0].upper(),) + event[1:], (event,), event[1:]]
    wrong += [("hear", bad, (0, 1), (0, 1)) for bad in WRONG_NUMBERS] + [("hear", 0, bad, (0, 1)) for bad in WRONG_DICE]
    wrong += [("hear", 0, (0, 1), bad) for bad in WRONG_DICE] + [("weight", bad, 1) for bad in WRONG_NUMBERS]
    wrong += [("weight", 0, bad) for bad in WRONG_POSITIVES] + [("right", bad, (1, 2)) for bad in WRONG_NUMBERS]
    wrong += [("right", 0, bad) for bad in WRONG_QUOTIENTS] + [("grade", bad, 0, 0, 1) for bad in WRONG_SIDES]
    for at in (2, 3, 4):
        good = ("grade", 0, 0, 0, 1)
        wrong += [good[:at] + (bad,) + good[at + 1:] for bad in WRONG_NUMBERS]
    wrong += [("sight", bad, 0) for bad in WRONG_NUMBERS] + [("sight", 0, bad) for bad in WRONG_NUMBERS]
    return wrong


def made_die(dice):
    bottom = dice.randint(1, 12)
    return quotient(Fraction(dice.randrange(bottom), bottom))


def made_event(dice, court, hears=0.4):
    """An event that the desk takes, or that it refuses for its case or exhibit, by the dice."""
    here = dice.randrange(len(court)) if dice.random() < 0.9 else len(court) + dice.randint(0, 2)
    if dice.random() < hears:
        return "hear", here, made_die(dice), made_die(dice)
    word = dice.choice(("weight", "right", "right", "grade", "grade", "sight"))
    if word == "weight":
        return word, here, dice.randint(1, 5)
    if word == "right":
        return word, here, made_right(dice)
    if word == "sight":
        return word, here, dice.randint(0, 1)
    side = dice.randint(0, 1)
    return word, side, here, dice.randint(0, max(0, len(court[0][3][side]) - (dice.random() < 0.9))), dice.randint(0, 3)


def refusal(court, event):
    here = event[2] if event[0] == "grade" else event[1]
    if here >= len(court):
        return "case"
    if event[0] == "grade" and event[3] >= len(court[0][3][event[1]]):
        return "exhibit"
    return None


def edited(court, event):
    """The court with the value of an edit, case by case."""
    word = event[0]
    at = event[2] if word == "grade" else event[1]
    cases = []
    for here, (weight, right, factors, holdings, sight) in enumerate(court):
        if here == at and word == "weight":
            weight = event[2]
        if here == at and word == "right":
            right = event[2]
        if here == at and word == "sight":
            sight = event[2]
        if here == at and word == "grade":
            own = [list(holding) for holding in holdings]
            own[event[1]][event[3]] = event[4]
            holdings = tuple(map(tuple, own))
        cases.append((weight, right, factors, holdings, sight))
    return tuple(cases)


def told(row, die):
    whole = Fraction(0)
    for at, chance in enumerate(row):
        whole += value(chance)
        if whole > value(die):
            return at
    raise AssertionError(row)


class Model:
    """What a desk tells behind a log, by the words of [86]."""

    def __init__(self, court, log=()):
        self.court, self.dealing, self.files, self.kept, self.results = court, dealing_of(court), (), 0, ()
        self.log = log
        for event in log:
            self.results += (self.heard(event) if event[0] == "hear" else self.edit(event),)

    def heard(self, event):
        _, here, ours, theirs = event
        pleas, replies, awards = hearing_of(self.court, self.dealing)
        plea, reply = told(pleas[here], ours), told(replies[here], theirs)
        award = awards[plea][reply]
        case = self.court[here]
        wrong = support.lean(case, value(award)) * (value(award) - value(case[1]))
        self.files += ((here, plea, reply, award, quotient(wrong)),)
        return self.files[-1]

    def edit(self, event):
        self.court = edited(self.court, event)
        if support.is_dealing(self.court, best_table(self.court), self.dealing):
            self.kept += 1
        else:
            self.dealing = dealing_of(self.court)
        return best_table(self.court)

    def properties(self):
        hearing = hearing_of(self.court, self.dealing)
        return (self.court, best_table(self.court), self.dealing, hearing, self.files, self.log, self.kept)


def properties(desk):
    return tuple(getattr(desk, name) for name in PROPERTIES)


def by_method(desk, event):
    """The event by the method of its own."""
    method = desk.hear if event[0] == "hear" else getattr(desk, "set_" + event[0])
    return method(*event[1:])


def by_names(desk, event):
    names = {
        "hear": ("here", "ours", "theirs"), "weight": ("here", "weight"), "right": ("here", "right"),
        "grade": ("side", "here", "exhibit", "grade"), "sight": ("here", "sight"),
    }[event[0]]
    method = desk.hear if event[0] == "hear" else getattr(desk, "set_" + event[0])
    return method(**dict(zip(names, event[1:])))


def by_go(desk, event):
    return desk.go(event=event)


def some_logs(seed, many=14, courts=COURTS):
    """Triples (court, log, refused): events that come, in sequence; and refused ones, by the position ahead of which."""
    dice = random.Random(seed)
    found = []
    for court in courts:
        now, log, refused = court, [], []
        while len(log) < many:
            event = made_event(dice, now)
            if refusal(now, event) is None:
                log.append(event)
                now = now if event[0] == "hear" else edited(now, event)
            else:
                refused.append((len(log), event))
        found.append((court, tuple(log), refused))
    return found


class EventsTest(Case):
    def test_is_event(self):
        for event in GOOD:
            self.same(is_event(event), True)
            self.same(is_event(thing=event), True)
        for thing in malformed():
            self.same(is_event(thing), False)

    def test_refusals_of_events(self):
        dice = random.Random(323)
        seen = set()
        for court in COURTS:
            for _ in range(25):
                event = made_event(dice, court)
                self.same(refusal_of(court, event), refusal(court, event))
                self.same(refusal_of(event=event, court=court), refusal(court, event))
                seen.add((event[0], refusal(court, event)))
        words = ("hear", "weight", "right", "grade", "sight")
        self.assertEqual(seen, {(word, why) for word in words for why in (None, "case")} | {("grade", "exhibit")})
        # The case comes ahead of the exhibit.
        self.same(refusal_of(PAIR, ("grade", 0, 2, 7, 0)), "case")
        self.same(refusal_of(PAIR, ("grade", 1, 1, 0, 0)), "exhibit")
        self.same(refusal_of(COPY, ("grade", 1, 1, 0, 9)), None)
        for thing in malformed():
            self.refuses("event", refusal_of, PAIR, thing)
            self.refuses("event", refusal_of, court=PAIR, event=thing)


class DeskTest(Case):
    def test_no_court(self):
        for bad in WRONG_COURTS + (Court(PAIR), LiveDesk(PAIR)):
            self.refuses("court", LiveDesk, bad)
            self.refuses("court", LiveDesk, court=bad)

    def test_a_new_desk(self):
        for court in COURTS:
            desk = LiveDesk(court=court)
            self.same(properties(desk), (court, best_table(court), dealing_of(court), hearing_of(court, dealing_of(court)), (), (), 0))
        for name in PROPERTIES:
            self.assertIsInstance(vars(LiveDesk)[name], property)
            with self.assertRaises(AttributeError):
                setattr(LiveDesk(PAIR), name, 0)

    def test_each_step(self):
        kept = {True: 0, False: 0}
        for court, log, _ in some_logs(324):
            desks = [(LiveDesk(court), way) for way in (by_go, by_method, by_names)]
            handed = []
            for at, event in enumerate(log):
                model = Model(court, log[:at + 1])
                before = desks[0][0].kept_deals
                for desk, way in desks:
                    self.same(desk.tried(event), model.results[-1])
                    self.same(way(desk, event), model.results[-1])
                    self.same(properties(desk), model.properties())
                if event[0] != "hear":
                    kept[desks[0][0].kept_deals > before] += 1
                handed.append((properties(desks[0][0]), model.properties()))
            # What was handed out earlier stays as it was.
            for one, other in handed:
                self.same(one, other)
        self.assertGreater(min(kept.values()), 30)

    def test_kept_deals(self):
        desk = LiveDesk(PAIR)
        # The value that is there already.
        self.same(desk.set_weight(0, 1), ((1, 2), (1, 2)))
        self.same((desk.kept_deals, desk.dealing_now), (1, ((0, 1, (1, 2)),)))
        # Another amount is dealt.
        self.same(desk.set_right(1, (2, 1)), ((1, 1), (1, 1)))
        self.same((desk.kept_deals, desk.dealing_now), (1, ((0, 1, (1, 1)),)))
        self.same(desk.set_sight(0, 0), ((1, 1), (1, 1)))
        self.same(desk.kept_deals, 2)
        # Nothing is dealt, ahead of it and behind.
        apart = LiveDesk(SEEN)
        self.same(apart.set_right(0, (5, 1)), ((5, 1), (1, 1)))
        self.same((apart.kept_deals, apart.dealing_now), (1, ()))
        # Nothing is dealt in the new court.
        self.same(desk.set_sight(0, 7), ((0, 1), (2, 1)))
        self.same((desk.kept_deals, desk.dealing_now), (2, ()))

    def test_a_dealing_kept_while_the_best_table_changes(self):
        found = 0
        for court, log, _ in some_logs(325, 20):
            desk = LiveDesk(court)
            for event in log:
                table, dealing, kept = desk.table_now, desk.dealing_now, desk.kept_deals
                desk.go(event)
                if desk.kept_deals > kept:
                    self.same(desk.dealing_now, dealing)
                    found += desk.table_now != table
        self.assertGreater(found, 10)

    def test_refused_events(self):
        for court, log, _ in some_logs(326, 4):
            desk = LiveDesk(court)
            desk.do_all(log, keep=True)
            before = properties(desk)
            reasons = [(event, "form") for event in malformed()[::7]]
            events = [made_event(random.Random(at), court) for at in range(60)]
            reasons += [(event, refusal(court, event)) for event in events if refusal(court, event) is not None]
            for event, reason in reasons:
                for way in (desk.go, desk.tried):
                    self.raises("InvalidEvent", {"event": event, "reason": reason}, way, event)
                    self.raises("InvalidEvent", {"event": event, "reason": reason}, way, event=event)
                if reason != "form":
                    self.raises("InvalidEvent", {"event": event, "reason": reason}, by_method, desk, event)
                    self.raises("InvalidEvent", {"event": event, "reason": reason}, by_names, desk, event)
                self.same(properties(desk), before)

    def test_the_very_event(self):
        event = ["hear", 0]
        try:
            LiveDesk(PAIR).go(event)
        except InvalidEvent as error:
            self.assertIs(error.event, event)
            self.same(error.reason, "form")

    def test_methods_with_wrong_values(self):
        desk = LiveDesk(COPY)
        for event in malformed():
            if isinstance(event, tuple) and len(event) > 1 and event[0] in ("weight", "right", "sight") and len(event) == 3:
                self.raises("InvalidEvent", {"event": event, "reason": "form"}, by_method, desk, event)
        self.raises("InvalidEvent", {"event": ("hear", 0, (1, 1), (0, 1)), "reason": "form"}, desk.hear, 0, (1, 1), (0, 1))
        self.raises("InvalidEvent", {"event": ("hear", True, (0, 1), None), "reason": "form"}, desk.hear, True, (0, 1), None)
        self.raises("InvalidEvent", {"event": ("grade", 2, 0, 0, 1), "reason": "form"}, desk.set_grade, 2, 0, 0, 1)
        self.raises("InvalidEvent", {"event": ("grade", 1, 2, 5, 1), "reason": "case"}, desk.set_grade, 1, 2, 5, 1)
        self.raises("InvalidEvent", {"event": ("grade", 1, 1, 1, 1), "reason": "exhibit"}, desk.set_grade, 1, 1, 1, 1)
        self.raises("InvalidEvent", {"event": ("hear", 2, (0, 1), (0, 1)), "reason": "case"}, desk.hear, 2, (0, 1), (0, 1))
        self.same(desk.log, ())

    def test_undo(self):
        for court, log, _ in some_logs(327, 9):
            for steps in (0, 1, 2, 5, 9):
                desk = LiveDesk(court)
                desk.do_all(log, keep=False)
                self.same(desk.undo(steps), log[9 - steps:])
                self.same(properties(desk), Model(court, log[:9 - steps]).properties())
                # What was undone comes again.
                self.same(desk.do_all(log[9 - steps:], keep=False), Model(court, log).results[9 - steps:])
                self.same(properties(desk), Model(court, log).properties())
                for more in (10, 11, 60, 10 ** 30):
                    self.raises("NothingToUndo", {"steps": more}, desk.undo, more)
                    self.raises("NothingToUndo", {"steps": more}, desk.undo, steps=more)
                for bad in WRONG_NUMBERS:
                    self.refuses("steps", desk.undo, bad)
                    self.refuses("steps", desk.undo, steps=bad)
                self.same(properties(desk), Model(court, log).properties())
        desk = LiveDesk(PAIR)
        self.same(desk.undo(0), ())
        self.raises("NothingToUndo", {"steps": 1}, desk.undo, 1)

    def test_do_all(self):
        for court, log, refused in some_logs(328, 6):
            bad_ones = [(event, "form") for event in (None, list(log[0]), ("hear",))]
            bad_ones += [(event, refusal(court, event)) for _, event in refused[:2]]
            desk = LiveDesk(court)
            self.same(desk.do_all(log, keep=True), Model(court, log).results)
            self.same(desk.do_all((), keep=True), ())
            self.same(desk.do_all(events=(), keep=False), ())
            self.same(properties(desk), Model(court, log).properties())
            for event, reason in bad_ones:
                for at in range(len(log) + 1):
                    for keep in (True, False):
                        desk = LiveDesk(court)
                        desk.do_all(log[:2], keep=keep)
                        events = log[:at] + (event,) + log[at:] + (None,)
                        self.raises("InvalidEvent", {"event": event, "reason": reason}, desk.do_all, events, keep=keep)
                        stays = log[:2] + log[:at] if keep else log[:2]
                        self.same(properties(desk), Model(court, stays).properties())

    def test_do_all_parameters(self):
        desk = LiveDesk(PAIR)
        event = ("weight", 0, 2)
        for bad in (None, True, 0, "", "ab", [], [event], {}, {event: 1}):
            for keep in (True, False, None):
                self.refuses("events", desk.do_all, bad, keep=keep)
                self.refuses("events", desk.do_all, events=bad, keep=keep)
        for bad in (None, 0, 1, "True", (), (True,), [], -1):
            self.refuses("keep", desk.do_all, (event,), keep=bad)
            self.refuses("keep", desk.do_all, events=(None,), keep=bad)
        with self.assertRaises(TypeError):
            desk.do_all((event,), True)
        with self.assertRaises(TypeError):
            desk.do_all((event,))
        self.same(properties(desk), properties(LiveDesk(PAIR)))

    def test_two_desks_of_one_court(self):
        for court, log, _ in some_logs(329, 6):
            one, other = LiveDesk(court), LiveDesk(court)
            one.do_all(log, keep=True)
            self.same(properties(other), Model(court).properties())
            other.do_all(log[::-1][-2:], keep=True)
            self.same(properties(one), Model(court, log).properties())

    def test_forty_events(self):
        for court, log, _ in some_logs(330, 40, FAMILIES + (MIXED, COIN, PAIR)):
            desk = LiveDesk(court)
            self.same(desk.do_all(log, keep=False), Model(court, log).results)
            self.same(properties(desk), Model(court, log).properties())
            self.same(desk.undo(40), log)
            self.same(properties(desk), Model(court).properties())

    def test_by_hand(self):
        desk = LiveDesk(PAIR)
        self.same(desk.hear(0, (0, 1), (1, 3)), (0, 1, 0, (1, 2), (1, 4)))
        self.same(desk.set_right(0, (1, 1)), ((1, 1), (1, 1)))
        self.same(desk.set_sight(1, 4), ((1, 1), (1, 1)))
        self.raises("InvalidEvent", {"event": ("weight", 2, 1), "reason": "case"}, desk.set_weight, 2, 1)
        self.same(desk.undo(2), (("right", 0, (1, 1)), ("sight", 1, 4)))
        self.same(desk.kept_deals, 0)
        # The wrong is told without the weight, by the court of that time.
        heavy = LiveDesk(((5,) + PAIR[0][1:], PAIR[1]))
        self.same(heavy.table_now, ((1, 6), (1, 6)))
        self.same(heavy.hear(0, (0, 1), (0, 1)), (0, 1, 0, (1, 6), (1, 36)))
        heavy.set_right(0, (1, 6))
        self.same(heavy.files, ((0, 1, 0, (1, 6), (1, 36)),))

    def test_whatever_the_dice(self):
        """(G11) and [92]: each file has the best award; a side lies exactly by the sign of the pull."""
        for court, log, _ in some_logs(331, 10):
            desk = LiveDesk(court)
            for event in log:
                table, now = desk.table_now, desk.court_now
                pulls = pulls_of(now, table)
                for here in range(len(now)):
                    for ours in ((0, 1), (1, 2), (9, 10)):
                        _, plea, reply, award, _ = desk.tried(("hear", here, ours, (4, 5)))
                        self.same(award, table[here])
                        self.assertEqual((plea != here, reply != here), (pulls[here][0] > 0, pulls[here][0] < 0))
                desk.go(event)

    def test_dice_by_chances(self):
        """Each story is told by as many of the dice as its chance asks for."""
        for court in COURTS:
            desk = LiveDesk(court)
            pleas, replies, _ = desk.hearing_now
            for here in range(len(court)):
                files = [desk.tried(("hear", here, quotient(Fraction(at, 12)), quotient(Fraction(at, 12)))) for at in range(12)]
                for spot, row in ((1, pleas[here]), (2, replies[here])):
                    stories = [one[spot] for one in files]
                    self.same(dice_counts(row, 12), tuple(stories.count(story) for story in range(len(court))))


def wrong_files():
    good = (0, 1, 0, (1, 2), (1, 4))
    wrong = [None, True, 0, "", "ab", [], [good], good, (good, None), (good[:4],), (good + (0,),), (list(good),), ((good,),)]
    for at in range(3):
        wrong += [(good, good[:at] + (bad,) + good[at + 1:]) for bad in WRONG_NUMBERS]
    for at in (3, 4):
        wrong += [(good[:at] + (bad,) + good[at + 1:],) for bad in WRONG_QUOTIENTS]
    return wrong


class FilesTest(Case):
    def test_sums(self):
        for court, log, _ in some_logs(332, 20):
            desk = LiveDesk(court)
            desk.do_all(log, keep=True)
            for files in (desk.files, (), desk.files[:1], desk.files * 3):
                self.same(paid_of(files), quotient(sum((value(one[3]) for one in files), Fraction(0))))
                self.same(wrong_in(files), quotient(sum((value(one[4]) for one in files), Fraction(0))))
                self.same(lies_in(files), (sum(one[1] != one[0] for one in files), sum(one[2] != one[0] for one in files)))
                self.same((paid_of(files=files), wrong_in(files=files)), (paid_of(files), wrong_in(files)))
                self.same(lies_in(files=files), lies_in(files))
                size = range(len(court))
                counts = tuple(sum(one[0] == here for one in files) for here in size)
                awards = [sum((value(one[3]) for one in files if one[0] == here), Fraction(0)) for here in size]
                self.same(tally_of(court, files), counts)
                self.same(tally_of(files=files, court=court), counts)
                self.same(awards_of(court, files), tuple(map(quotient, awards)))
                self.same(awards_of(files=files, court=court), tuple(map(quotient, awards)))

    def test_by_hand(self):
        self.same((paid_of(()), wrong_in(()), lies_in(())), ((0, 1), (0, 1), (0, 0)))
        self.same((tally_of(COIN, ()), awards_of(COIN, ())), ((0, 0, 0), ((0, 1), (0, 1), (0, 1))))
        files = ((0, 1, 0, (1, 2), (1, 4)), (1, 1, 0, (-1, 3), (7, 2)), (10 ** 20, 10 ** 20, 10 ** 20, (1, 6), (0, 1)))
        self.same((paid_of(files), wrong_in(files), lies_in(files)), ((1, 3), (15, 4), (1, 1)))
        self.same((tally_of(PAIR, files[:2]), awards_of(PAIR, files[:2])), ((1, 1), ((1, 2), (-1, 3))))

    def test_refusals(self):
        for bad in wrong_files():
            for function in (paid_of, wrong_in, lies_in):
                self.refuses("files", function, bad)
                self.refuses("files", function, files=bad)
        beyond = [((0, 0, 0, (0, 1), (0, 1)), one + ((0, 1), (0, 1))) for one in ((2, 0, 0), (0, 2, 0), (0, 0, 2), (9, 9, 9))]
        for function in (tally_of, awards_of):
            for bad in wrong_files() + beyond:
                self.refuses("files", function, PAIR, bad)
                self.refuses("files", function, court=PAIR, files=bad)


class ReplayingTest(Case):
    def test_replayed(self):
        for court, log, refused in some_logs(333, 12):
            desk = LiveDesk(court)
            for at, event in enumerate(log):
                for place, bad in refused:
                    if place == at:
                        try:
                            desk.go(bad)
                        except CourtError:
                            pass
                desk.tried(event)
                desk.go(event)
                if at in (4, 8):
                    desk.undo(2)
            again = replayed(court, desk.log)
            self.assertIs(type(again), LiveDesk)
            self.same(properties(again), properties(desk))
            self.same(properties(replayed(log=desk.log, court=court)), properties(desk))
            self.same(properties(again), Model(court, desk.log).properties())
            # The new desk goes its own way.
            again.undo(1)
            self.same(properties(desk), Model(court, desk.log).properties())

    def test_refusals(self):
        for bad in (None, True, 0, "", [], [("weight", 0, 1)], {}):
            self.refuses("log", replayed, PAIR, bad)
            self.refuses("log", replayed, court=PAIR, log=bad)
        good = ("weight", 0, 2)
        for event, reason in ((None, "form"), (("weight", 2, 1), "case"), (("grade", 1, 0, 0, 1), "exhibit"), (("weight", 0), "form")):
            for log in ((event,), (good, event), (good, event, None)):
                self.raises("InvalidEvent", {"event": event, "reason": reason}, replayed, PAIR, log)
        self.same(replayed(CHAIN, ()).log, ())
