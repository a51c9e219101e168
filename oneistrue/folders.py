"""Folders: facts with weighed marks, and lines that make cases and courts of them."""

from oneistrue.conditions import is_condition, is_met
from oneistrue.errors import InvalidPaper
from oneistrue.kinds import is_holding, is_integer, is_number, is_positive, is_quotient, is_tuple_of

WORDS = ("out", "weight", "up", "down", "right", "claimant", "defendant", "sight")
MOST_TUPLES = 64


def is_fact(thing):
    return isinstance(thing, tuple) and len(thing) > 0 and all([is_positive(weight) for weight in thing])


def is_facts(thing):
    return isinstance(thing, tuple) and all([is_fact(fact) for fact in thing])


def is_word(thing):
    return isinstance(thing, str) and thing in WORDS


def is_value(word, thing):
    """Whether thing is a value that goes with one of the words."""
    if word == "out":
        return is_integer(thing) and thing == 0
    if word in ("weight", "up", "down"):
        return is_positive(thing)
    if word == "right":
        return is_quotient(thing)
    if word == "sight":
        return is_number(thing)
    return is_holding(2, thing)


def counts_of(facts):
    """How many marks each fact has."""
    return tuple([len(fact) for fact in facts])


def has_too_many(facts):
    """Whether the facts make more tuples of marks than a folder may have."""
    many = 1
    for fact in facts:
        many = many * len(fact)
    return many > MOST_TUPLES


def tuples_of(counts):
    """All tuples of a mark for each fact, ascending."""
    rows = [()]
    for count in counts:
        rows = [row + (mark,) for row in rows for mark in range(count)]
    return rows


def fault_of(counts, line):
    """The word for what is wrong with a line, or None."""
    if not is_tuple_of(3, line):
        return "line"
    word, value, condition = line
    if not is_word(word):
        return "word"
    if not is_value(word, value):
        return "value"
    if not is_condition(counts, condition):
        return "condition"
    return None


def lets_folder(thing):
    if not is_tuple_of(2, thing):
        raise InvalidPaper("shape", -1)
    facts, lines = thing
    if not is_facts(facts):
        raise InvalidPaper("facts", 0)
    if has_too_many(facts):
        raise InvalidPaper("size", 0)
    if not isinstance(lines, tuple):
        raise InvalidPaper("lines", 1)
    for i, line in enumerate(lines):
        word = fault_of(counts_of(facts), line)
        if word is not None:
            raise InvalidPaper(word, i)
    many = len(cases_of(thing))
    if many == 0:
        raise InvalidPaper("none", -1)
    return many


def cases_of(folder):
    facts, lines = folder
    bars = [condition for word, _, condition in lines if word == "out"]
    rows = tuples_of(counts_of(facts))
    return tuple([marks for marks in rows if not any([is_met(bar, marks) for bar in bars])])


def last_of(values, fallback):
    """The last one of the values, fallback if there is none."""
    if len(values) == 0:
        return fallback
    return values[len(values) - 1]


def values_told(lines, marks, word):
    """The values of the lines of this word that hold for the marks, in sequence."""
    return [value for name, value, condition in lines if name == word and is_met(condition, marks)]


def weight_at(folder, marks):
    facts, lines = folder
    weight = 1
    for fact, mark in zip(facts, marks):
        weight = weight * fact[mark]
    for value in values_told(lines, marks, "weight"):
        weight = weight * value
    return weight


def holding_at(lines, marks, word):
    # Lines that do not hold name exhibits, too: each case has to have as many grades.
    many = max([value[0] + 1 for name, value, _ in lines if name == word], default=0)
    told = values_told(lines, marks, word)
    return tuple([
        last_of([grade for exhibit, grade in told if exhibit == spot], 0) for spot in range(many)
    ])


def case_at(folder, marks):
    lines = folder[1]
    right = last_of(values_told(lines, marks, "right"), (0, 1))
    up = last_of(values_told(lines, marks, "up"), 1)
    down = last_of(values_told(lines, marks, "down"), 1)
    holdings = (holding_at(lines, marks, "claimant"), holding_at(lines, marks, "defendant"))
    sight = last_of(values_told(lines, marks, "sight"), 0)
    return (weight_at(folder, marks), right, (up, down), holdings, sight)


def court_of(folder):
    return tuple([case_at(folder, marks) for marks in cases_of(folder)])
