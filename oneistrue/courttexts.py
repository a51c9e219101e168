"""Courts as texts, a row a case."""

from oneistrue.courtchecker import have_as_many
from oneistrue.errors import InvalidRow, InvalidText
from oneistrue.usable import need
from oneistrue.wordings import quotient_word, read_number, read_numbers, read_positive, read_positives
from oneistrue.wordings import read_quotient, read_two

FIELDS = 6


def holding_word(holding):
    if len(holding) == 0:
        return "-"
    return ".".join([str(grade) for grade in holding])


def case_row(case):
    weight, right, factors, holdings, sight = case
    words = [str(weight), quotient_word(right), f"{factors[0]},{factors[1]}"]
    return " ".join(words + [holding_word(holdings[0]), holding_word(holdings[1]), str(sight)])


def court_text(court):
    return "\n".join([case_row(case) for case in court])


def read_holding(word):
    if word == "-":
        return ()
    return read_numbers(word, ".")


def read_field(field, word):
    """The value that a word is in this field, None if it is none there."""
    if field == 0:
        return read_positive(word)
    if field == 1:
        return read_quotient(word)
    if field == 2:
        return read_two(read_positives(word, ","))
    if field in (3, 4):
        return read_holding(word)
    if field == 5:
        return read_number(word)
    return None


def read_case(line, row):
    parts = []
    for field, word in enumerate(row.split(" ")):
        part = read_field(field, word)
        if part is None:
            raise InvalidText(line, field)
        parts.append(part)
    if len(parts) < FIELDS:
        raise InvalidText(line, len(parts))
    weight, right, factors, ours, theirs, sight = parts
    return (weight, right, factors, (ours, theirs), sight)


def read_court(text):
    need(isinstance(text, str), "text")
    court = tuple([read_case(line, row) for line, row in enumerate(text.split("\n"))])
    for i, case in enumerate(court):
        if not have_as_many(case[3], court[0][3]):
            raise InvalidRow(i)
    return court
