"""[90] eventtexts, [91] eventreadings, [92] desk."""

import random
import re

from oneistrue.courttexts import court_text
from oneistrue.desk import desk_answers
from oneistrue.errors import InvalidEvent, NothingToUndo
from oneistrue.eventreadings import read_event, read_log
from oneistrue.eventtexts import event_line, log_text
from oneistrue.live import LiveDesk
from tests.support import ANYTHING, COIN, MIXED, PAIR, SEEN, Case, value
from tests.test_live import COURTS, GOOD, made_event, malformed, some_logs

NUMBER = "0|[1-9][0-9]*"
POSITIVE = "[1-9][0-9]*"
WORDS = {
    "hear": ("number", "die", "die"), "weight": ("number", "positive"), "right": ("number", "quotient"),
    "grade": ("side", "number", "number", "number"), "sight": ("number", "number"),
}
COMMANDS = {**WORDS, "undo": ("number",), "table": (), "paid": (), "wrong": (), "lies": (), "cases": (), "kept": ()}
BAD_WORDS = (
    "", "x", "-1", "+1", "01", "1.0", "1e3", "00", "-0", "2/4", "1/0", "0/2", "-1/2", "1/2", "1/1", "3/2", "/", "1/", "/1", "1/-2", "1//2",
    "01/2", "1/02", "True", "None", "0", "2", "1", "0/1", "hear", "1\n", "\n", "1,2", "1:2", "0/1/1", "--1/2", "-0/1", "one", "1_0", "a/b",
    "999999999999999999999999", "-5/1", "-7/3",
)


def fits(kind, word):
    """Whether a word is one that a line has for this kind, by its letters."""
    if kind == "number":
        return bool(re.fullmatch(NUMBER, word))
    if kind == "positive":
        return bool(re.fullmatch(POSITIVE, word))
    if kind == "side":
        return word in ("0", "1")
    told = re.fullmatch("(0|-?[1-9][0-9]*)/([1-9][0-9]*)", word)
    if not told:
        return False
    top, bottom = int(told[1]), int(told[2])
    lowest = all(top % by or bottom % by for by in range(2, min(bottom, 1000) + 1))
    return lowest and (kind == "quotient" or 0 <= top < bottom)


def fault_in(row, kinds_by_word):
    """The field of the first word that can't stand there, None if the row is a line."""
    words = row.split(" ")
    if words[0] not in kinds_by_word:
        return 0
    kinds = kinds_by_word[words[0]]
    for at, word in enumerate(words[1:]):
        if at >= len(kinds) or not fits(kinds[at], word):
            return at + 1
    return None if len(words) == len(kinds) + 1 else len(words)


def changed_rows(row):
    """The row with one word changed, lost, added, or parted in another way."""
    words = row.split(" ")
    found = [row + " ", " " + row, row + " 0", row + "\n", row.upper(), row.replace(" ", "  ", 1), row.replace(" ", "\t", 1), ""]
    for at in range(len(words)):
        found += [" ".join(words[:at] + [bad] + words[at + 1:]) for bad in BAD_WORDS]
        found += [" ".join(words[:at]), " ".join(words[:at] + words[at + 1:]), " ".join(words[:at] + [""] + words[at:])]
    return found


class TextsTest(Case):
    def test_lines(self):
        dice = random.Random(341)
        for court in COURTS:
            for _ in range(20):
                event = made_event(dice, court)
                line = event_line(event)
                words = [part if isinstance(part, str) else "%d/%d" % part if isinstance(part, tuple) else "%d" % part for part in event]
                self.same(line, " ".join(words))
                self.same(event_line(event=event), line)
                self.same(read_event(line), event)
                self.same(read_event(text=line), event)
        for event in GOOD:
            self.same(read_event(event_line(event)), event)
        self.same(event_line(("right", 0, (-1, 2))), "right 0 -1/2")
        self.same(event_line(("right", 3, (0, 1))), "right 3 0/1")

    def test_logs(self):
        for _, log, _ in some_logs(342, 12):
            text = log_text(log)
            self.same(text, "\n".join(event_line(event) for event in log))
            self.same(log_text(log=log), text)
            self.same(read_log(text), log)
            self.same(read_log(text=text), log)
        self.same((log_text(()), read_log("")), ("", ()))
        self.same(log_text((("hear", 0, (0, 1), (1, 3)), ("grade", 0, 1, 0, 2))), "hear 0 0/1 1/3\ngrade 0 1 0 2")

    def test_refusals_of_values(self):
        for thing in malformed():
            self.refuses("event", event_line, thing)
            self.refuses("event", event_line, event=thing)
            for log in ((thing,), GOOD + (thing,), (thing,) + GOOD):
                self.refuses("log", log_text, log)
                self.refuses("log", log_text, log=log)
        for bad in (None, True, 0, "", "hear 0 0/1 1/2", [], list(GOOD), GOOD[0], {}):
            self.refuses("log", log_text, bad)
        for thing in ANYTHING:
            if not isinstance(thing, str):
                for function in (read_event, read_log, desk_answers):
                    self.refuses("text", function, thing)
                    self.refuses("text", function, text=thing)

    def check_event(self, row):
        fault = fault_in(row, WORDS)
        if fault is None:
            self.same(event_line(read_event(row)), row)
        else:
            self.raises("InvalidText", {"line": 0, "field": fault}, read_event, row)
            self.raises("InvalidText", {"line": 0, "field": fault}, read_event, text=row)
        return fault

    def test_wrong_lines(self):
        faults = set()
        for event in GOOD:
            for row in changed_rows(event_line(event)):
                faults.add((event[0], self.check_event(row)))
        for row in BAD_WORDS + ("", " ", "  ", "undo 1", "table", "HEAR 0 0/1 0/1", "hear", "sight 0 1\nsight 0 1", "sight\n0 1"):
            self.check_event(row)
        for word, kinds in WORDS.items():
            self.assertTrue({(word, at) for at in range(len(kinds) + 2)} <= faults)
        # One row: a newline is part of a word.
        self.raises("InvalidText", {"line": 0, "field": 2}, read_event, "sight 0 1\nsight 0 1")
        self.raises("InvalidText", {"line": 0, "field": 2}, read_event, "sight 0 1\n")
        self.raises("InvalidText", {"line": 0, "field": 0}, read_event, "\nsight 0 1")
        self.raises("InvalidText", {"line": 0, "field": 0}, read_event, "")
        self.raises("InvalidText", {"line": 0, "field": 2}, read_event, "hear 0")
        self.raises("InvalidText", {"line": 0, "field": 2}, read_event, "hear 0 ")
        self.raises("InvalidText", {"line": 0, "field": 1}, read_event, "hear")

    def test_wrong_logs(self):
        rows = [event_line(event) for event in GOOD]
        for at in range(len(rows)):
            for row in changed_rows(rows[at])[::3]:
                if "\n" not in row:
                    fault = fault_in(row, WORDS)
                    text = "\n".join(rows[:at] + [row] + rows[at + 1:])
                    if fault is None:
                        self.same(log_text(read_log(text)), text)
                    else:
                        self.raises("InvalidText", {"line": at, "field": fault}, read_log, text)
                        self.raises("InvalidText", {"line": at, "field": fault}, read_log, text + "\nx")
        self.raises("InvalidText", {"line": 1, "field": 3}, read_log, "sight 0 1\nhear 0 0/1 1/1")
        # An empty row, and a newline at the end.
        self.raises("InvalidText", {"line": 1, "field": 0}, read_log, "sight 0 1\n")
        self.raises("InvalidText", {"line": 1, "field": 0}, read_log, "sight 0 1\n\nsight 0 1")
        self.raises("InvalidText", {"line": 0, "field": 0}, read_log, "\n")
        self.raises("InvalidText", {"line": 0, "field": 0}, read_log, "\nsight 0 1")
        self.raises("InvalidText", {"line": 0, "field": 0}, read_log, " ")


def word_of(quotient):
    return "%d/%d" % quotient


def expected_answers(court, commands):
    """By the words of [92], from a desk that is asked by its methods."""
    desk = LiveDesk(court)
    rows = []
    for command in commands:
        words = command.split(" ")
        if words[0] == "undo":
            try:
                desk.undo(int(words[1]))
                rows.append("undone " + words[1])
            except NothingToUndo:
                rows.append("refused undo")
        elif words[0] in WORDS:
            try:
                result = desk.go(read_event(command))
            except InvalidEvent as error:
                rows.append("refused " + error.reason)
            else:
                if words[0] == "hear":
                    rows.append(f"{result[1]} {result[2]} {word_of(result[3])} {word_of(result[4])}")
                else:
                    rows.append(" ".join(map(word_of, desk.table_now)))
        else:
            rows.append(asked(desk, words[0]))
    return "\n".join(rows)


def asked(desk, word):
    files = desk.files
    if word in ("paid", "wrong"):
        whole = sum(value(one[3 if word == "paid" else 4]) for one in files)
        return f"{whole.numerator}/{whole.denominator}"
    if word == "lies":
        return f"{sum(one[1] != one[0] for one in files)} {sum(one[2] != one[0] for one in files)}"
    if word == "cases":
        return " ".join(str(sum(one[0] == here for one in files)) for here in range(len(desk.court_now)))
    if word == "kept":
        return str(desk.kept_deals)
    return " ".join(map(word_of, desk.table_now))


def made_commands(dice, court, many):
    found = []
    for _ in range(many):
        word = dice.choice(("event", "event", "event", "undo", "table", "paid", "wrong", "lies", "cases", "kept"))
        if word == "event":
            found.append(event_line(made_event(dice, court)))
        elif word == "undo":
            found.append(f"undo {dice.choice((0, 1, 1, 2, 3, 50))}")
        else:
            found.append(word)
    return found


class DeskAnswersTest(Case):
    def test_by_definition(self):
        dice = random.Random(343)
        seen = set()
        for court in COURTS:
            commands = made_commands(dice, court, 30)
            text = court_text(court) + "\n\n" + "\n".join(commands)
            answers = desk_answers(text)
            self.same(answers, expected_answers(court, commands))
            self.same(desk_answers(text=text), answers)
            seen |= {(command.split(" ")[0], row.split(" ")[0] == "refused") for command, row in zip(commands, answers.split("\n"))}
        self.assertEqual(seen, {
            (word, why) for word in COMMANDS for why in (True, False) if not why or word == "undo" or word in WORDS
        })

    def test_by_hand(self):
        court = "1 0/1 1,1 1 - 0\n1 1/1 1,1 0 - 0"
        commands = "hear 0 0/1 1/2\nsight 1 3\nlies\nweight 2 1\nundo 1\ntable"
        answers = "1 0 1/2 1/4\n0/1 1/1\n1 0\nrefused case\nundone 1\n1/2 1/2"
        self.same(desk_answers(court + "\n\n" + commands), answers)
        more = "paid\nwrong\ncases\nkept\nlies\nundo 1\nundo 0\nhear 1 0/1 0/1\npaid\ngrade 1 0 0 1\ngrade 1 2 0 1\nright 0 1/2\nkept"
        self.same(
            desk_answers(court + "\n\n" + more),
            "0/1\n0/1\n0 0\n0\n0 0\nrefused undo\nundone 0\n1 0 1/2 1/4\n1/2\nrefused exhibit\nrefused case\n3/4 3/4\n0",
        )
        self.same(desk_answers(court + "\n\nweight 0 1\nkept\nhear 1 1/2 1/2\ncases"), "1/2 1/2\n1\n1 0 1/2 1/4\n0 1")

    def test_without_commands(self):
        for court in (PAIR, COIN, MIXED, SEEN):
            self.same(desk_answers(court_text(court)), "")
            self.same(desk_answers(court_text(court) + "\n"), "")
            self.raises("InvalidText", {"line": len(court) + 1, "field": 0}, desk_answers, court_text(court) + "\n\n")

    def test_the_text_of_the_court(self):
        # The first row is empty: so the court's text is "".
        for text in ("", "\n", "\ntable", "\n\n", "\nx"):
            self.raises("InvalidText", {"line": 0, "field": 0}, desk_answers, text)
        good = court_text(COIN).split("\n")
        for tail in ("", "\n", "\n\n", "\n\ntable", "\n\nx", "\n\ntable\n\n"):
            for at in range(3):
                for field in range(6):
                    words = good[at].split(" ")
                    row = " ".join(words[:field] + ["x"] + words[field + 1:])
                    text = "\n".join(good[:at] + [row] + good[at + 1:]) + tail
                    self.raises("InvalidText", {"line": at, "field": field}, desk_answers, text)
                self.raises("InvalidText", {"line": at, "field": 6}, desk_answers, "\n".join(good[:at] + [good[at] + " 0"]) + tail)
            unlike = "1 0/1 1,1 1.0 - 0\n1 0/1 1,1 1 - 0"
            self.raises("InvalidRow", {"row": 1}, desk_answers, unlike + tail)
        # Without an empty row all rows are the court's.
        self.raises("InvalidText", {"line": 3, "field": 0}, desk_answers, court_text(COIN) + "\ntable")

    def test_wrong_commands(self):
        ahead = court_text(PAIR) + "\n\n"
        rows = ["hear 0 0/1 1/2", "undo 1", "table", "paid", "wrong", "lies", "cases", "kept", "grade 0 0 0 1", "right 1 -1/2"]
        faults = set()
        for at, good in enumerate(rows):
            for row in changed_rows(good):
                if "\n" in row:
                    continue
                fault = fault_in(row, COMMANDS)
                text = ahead + "\n".join(rows[:at] + [row] + rows[at + 1:])
                if fault is None:
                    self.same(desk_answers(text), expected_answers(PAIR, rows[:at] + [row] + rows[at + 1:]))
                else:
                    self.raises("InvalidText", {"line": 3 + at, "field": fault}, desk_answers, text)
                    self.raises("InvalidText", {"line": 3 + at, "field": fault}, desk_answers, text + "\nx")
                faults.add((good.split(" ")[0], fault))
        self.assertTrue({("undo", 1), ("undo", 2), ("table", 0), ("table", 1), ("hear", 0), ("hear", 4)} <= faults)
        for row, field in (("undo", 1), ("undo ", 1), ("undo -1", 1), ("undo 1 1", 2), ("kept 0", 1), ("table ", 1), ("", 0), (" ", 0)):
            self.raises("InvalidText", {"line": 4, "field": field}, desk_answers, ahead + "table\n" + row)
            self.raises("InvalidText", {"line": 4, "field": field}, desk_answers, ahead + "table\n" + row + "\ntable")

    def test_nothing_goes_ahead_of_the_errors(self):
        """All commands are read first: a refused event does not hide a wrong word behind it."""
        self.raises("InvalidText", {"line": 5, "field": 0}, desk_answers, court_text(PAIR) + "\n\nweight 2 1\nundo 7\nx")

    def test_forty_events(self):
        for court, log, _ in some_logs(344, 40, (MIXED, COIN)):
            text = court_text(court) + "\n\n" + log_text(log) + "\npaid\nkept\nundo 40\ntable"
            commands = log_text(log).split("\n") + ["paid", "kept", "undo 40", "table"]
            self.same(desk_answers(text), expected_answers(court, commands))
