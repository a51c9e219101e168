"""Folders as texts: a row of facts, then a row a line."""

from oneistrue.conditions import is_condition
from oneistrue.errors import InvalidRow, InvalidText
from oneistrue.folders import cases_of, counts_of, has_too_many, is_word
from oneistrue.usable import need
from oneistrue.wordings import quotient_word, read_number, read_numbers, read_positive, read_positives
from oneistrue.wordings import read_quotient, read_two

FIELDS = 3


def value_word(word, value):
    if word == "right":
        return quotient_word(value)
    if word in ("claimant", "defendant"):
        return f"{value[0]}:{value[1]}"
    return str(value)


def triple_word(triple):
    fact, equal, mark = triple
    if equal:
        return f"{fact}={mark}"
    return f"{fact}!{mark}"


def alternative_word(alternative):
    if len(alternative) == 0:
        return "*"
    return "&".join([triple_word(triple) for triple in alternative])


def condition_word(condition):
    if len(condition) == 0:
        return "-"
    return "|".join([alternative_word(alternative) for alternative in condition])


def facts_row(facts):
    return " ".join(["facts"] + [",".join([str(weight) for weight in fact]) for fact in facts])


def line_row(line):
    word, value, condition = line
    return f"{word} {value_word(word, value)} {condition_word(condition)}"


def folder_text(folder):
    facts, lines = folder
    return "\n".join([facts_row(facts)] + [line_row(line) for line in lines])


def read_value(name, word):
    """The value that a word is behind the name of a line, None if it is none there."""
    if name == "out":
        return 0 if word == "0" else None
    if name in ("weight", "up", "down"):
        return read_positive(word)
    if name == "right":
        return read_quotient(word)
    if name == "sight":
        return read_number(word)
    return read_two(read_numbers(word, ":"))


def read_triple(word):
    sign = "=" if "=" in word else "!"
    numbers = read_two(read_numbers(word, sign))
    if numbers is None:
        return None
    return (numbers[0], sign == "=", numbers[1])


def read_alternative(word):
    if word == "*":
        return ()
    triples = tuple([read_triple(part) for part in word.split("&")])
    if None in triples:
        return None
    return triples


def read_condition(word):
    if word == "-":
        return ()
    alternatives = tuple([read_alternative(part) for part in word.split("|")])
    if None in alternatives:
        return None
    return alternatives


def read_field(field, word, name):
    """The part of a line that a word is, None if it is none; name is the row's first word."""
    if field == 0:
        return word if is_word(word) else None
    if field == 1:
        return read_value(name, word)
    if field == 2:
        return read_condition(word)
    return None


def read_line(line, row):
    words = row.split(" ")
    parts = []
    for field, word in enumerate(words):
        part = read_field(field, word, words[0])
        if part is None:
            raise InvalidText(line, field)
        parts.append(part)
    if len(parts) < FIELDS:
        raise InvalidText(line, len(parts))
    return tuple(parts)


def read_facts(row):
    words = row.split(" ")
    if words[0] != "facts":
        raise InvalidText(0, 0)
    facts = []
    for field, word in enumerate(words):
        if field > 0:
            fact = read_positives(word, ",")
            if fact is None:
                raise InvalidText(0, field)
            facts.append(fact)
    return tuple(facts)


def read_folder(text):
    need(isinstance(text, str), "text")
    rows = text.split("\n")
    facts = read_facts(rows[0])
    lines = tuple([read_line(at, row) for at, row in enumerate(rows) if at > 0])
    if has_too_many(facts):
        raise InvalidRow(0)
    for i, line in enumerate(lines):
        if not is_condition(counts_of(facts), line[2]):
            raise InvalidRow(i + 1)
    if len(cases_of((facts, lines))) == 0:
        raise InvalidRow(len(rows))
    return (facts, lines)
