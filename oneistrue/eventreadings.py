"""Events of a live desk read from texts."""

from oneistrue.dice import is_die
from oneistrue.errors import InvalidText
from oneistrue.liveevents import kinds_for
from oneistrue.usable import is_side, need
from oneistrue.wordings import read_number, read_positive, read_quotient


def read_die(word):
    quotient = read_quotient(word)
    return quotient if is_die(quotient) else None


def read_side(word):
    number = read_number(word)
    return number if is_side(number) else None


def read_part(kind, word):
    """The value of one of the kinds that a word is, None if it is none."""
    if kind == "die":
        return read_die(word)
    if kind == "positive":
        return read_positive(word)
    if kind == "quotient":
        return read_quotient(word)
    if kind == "side":
        return read_side(word)
    return read_number(word)


def read_words(line, words, kinds):
    """The first one of the words, and the values of the others, of these kinds; kinds None: the first one is wrong."""
    if kinds is None:
        raise InvalidText(line, 0)
    parts = [words[0]]
    for field, word in enumerate(words):
        if field > 0:
            part = read_part(kinds[field - 1], word) if field <= len(kinds) else None
            if part is None:
                raise InvalidText(line, field)
            parts.append(part)
    if len(parts) <= len(kinds):
        raise InvalidText(line, len(parts))
    return tuple(parts)


def event_in(line, row):
    """The event of which the row is the line; line tells where it stands in the text."""
    words = row.split(" ")
    return read_words(line, words, kinds_for(words[0]))


def read_event(text):
    need(isinstance(text, str), "text")
    return event_in(0, text)


def read_log(text):
    need(isinstance(text, str), "text")
    if text == "":
        return ()
    return tuple([event_in(line, row) for line, row in enumerate(text.split("\n"))])
