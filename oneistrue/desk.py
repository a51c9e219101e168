"""A live desk that is asked by a text, and answers with one."""

from oneistrue.courttexts import read_court
from oneistrue.errors import InvalidEvent, NothingToUndo
from oneistrue.eventreadings import read_words
from oneistrue.ledgers import lies_in, paid_of, wrong_in
from oneistrue.live import LiveDesk
from oneistrue.liveevents import kinds_for
from oneistrue.tallies import tally_of
from oneistrue.usable import need
from oneistrue.wordings import quotient_word


def command_kinds(word):
    """The kinds of the parts of a command behind its word, None for no command's word."""
    if word == "undo":
        return ("number",)
    if word in ("table", "paid", "wrong", "lies", "cases", "kept"):
        return ()
    return kinds_for(word)


def command_in(line, row):
    words = row.split(" ")
    return read_words(line, words, command_kinds(words[0]))


def table_row(table):
    return " ".join([quotient_word(award) for award in table])


def file_row(told):
    _, plea, reply, award, wrong = told
    return f"{plea} {reply} {quotient_word(award)} {quotient_word(wrong)}"


def undo_row(desk, steps):
    try:
        desk.undo(steps)
    except NothingToUndo:
        return "refused undo"
    return f"undone {steps}"


def event_row(desk, event):
    try:
        result = desk.go(event)
    except InvalidEvent as error:
        return f"refused {error.reason}"
    if event[0] == "hear":
        return file_row(result)
    return table_row(result)


def asked_row(desk, word):
    """The answer to a command of one word."""
    if word == "table":
        return table_row(desk.table_now)
    if word == "paid":
        return quotient_word(paid_of(desk.files))
    if word == "wrong":
        return quotient_word(wrong_in(desk.files))
    if word == "lies":
        pleas, replies = lies_in(desk.files)
        return f"{pleas} {replies}"
    if word == "cases":
        return " ".join([str(count) for count in tally_of(desk.court_now, desk.files)])
    return str(desk.kept_deals)


def answer(desk, command):
    if command[0] == "undo":
        return undo_row(desk, command[1])
    if len(command) > 1:
        return event_row(desk, command)
    return asked_row(desk, command[0])


def desk_answers(text):
    need(isinstance(text, str), "text")
    rows = text.split("\n")
    ahead = rows.index("") if "" in rows else len(rows)
    court = read_court("\n".join(rows[:ahead]))
    commands = [command_in(line, row) for line, row in enumerate(rows) if line > ahead]
    desk = LiveDesk(court)
    return "\n".join([answer(desk, command) for command in commands])
