"""Events of a live desk as texts, a line an event."""

from oneistrue.liveevents import is_event
from oneistrue.usable import need
from oneistrue.wordings import quotient_word


def part_word(part):
    """How a part of an event is written: its word, a quotient, or a number."""
    if isinstance(part, tuple):
        return quotient_word(part)
    return str(part)


def line_of(event):
    """What event_line tells, unchecked."""
    return " ".join([part_word(part) for part in event])


def event_line(event):
    need(is_event(event), "event")
    return line_of(event)


def log_text(log):
    need(isinstance(log, tuple) and all([is_event(event) for event in log]), "log")
    return "\n".join([line_of(event) for event in log])
