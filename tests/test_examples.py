"""Every example of the document for what has landed, as it stands there."""

import ast
import importlib
import re

from oneistrue.errors import CourtError
from tests.support import Case
from tests.test_interface import CLASSES, listed

EXAMPLES = """
    >>> PAIR = ((1, (0, 1), (1, 1), ((1,), ()), 0), (1, (1, 1), (1, 1), ((0,), ()), 0))
    >>> COPY = ((1, (0, 1), (1, 1), ((1,), (1,)), 0), (1, (1, 1), (1, 1), ((0,), (0,)), 0))
    >>> SEEN = ((1, (0, 1), (1, 1), ((), ()), 0), (1, (1, 1), (1, 1), ((), ()), 1))
    >>> COIN = ((1, (0, 1), (1, 1), ((1, 0), ()), 0), (1, (0, 1), (1, 1), ((0, 1), ()), 0), (1, (3, 1), (1, 1), ((0, 0), ()), 0))
    >>> quotient_of(4, -6), over((1, 2), (-3, 4)), total(())
    ((-2, 3), (-2, 3), (0, 1))
    >>> lets_court((COIN[0], PAIR[0], None))
    InvalidPaper: ("holdings", 1)
    >>> merged((PAIR[1], PAIR[0], PAIR[1]))
    (((2, (1, 1), (1, 1), ((0,), ()), 0), (1, (0, 1), (1, 1), ((1,), ()), 0)), (0, 1, 0))
    >>> both((2,), (((0, True, 1),), ()), (((0, False, 0),),))
    (((0, True, 1), (0, False, 0)), ((0, False, 0),))
    >>> STEP = (((3, 1), (1, 1)), (("out", 0, (((0, True, 1), (1, True, 1)),)), ("claimant", (0, 2), (((0, True, 0),),))))
    >>> court_of(STEP)
    ((3, (0, 1), (1, 1), ((2,), ()), 0), (3, (0, 1), (1, 1), ((2,), ()), 0), (1, (0, 1), (1, 1), ((0,), ()), 0))
    >>> folder_text(STEP)
    'facts 3,1 1,1\\nout 0 0=1&1=1\\nclaimant 0:2 0=0'
    >>> read_folder("facts 1\\nright 2/4 -")
    InvalidText: (1, 1)
    >>> court_text(SEEN)
    '1 0/1 1,1 - - 0\\n1 1/1 1,1 - - 1'
    >>> can_tell(PAIR, 0, 0, 1), can_tell(PAIR, 0, 1, 0), can_tell(PAIR, 1, 1, 0)
    (True, False, True)
    >>> stories_of(COIN, 0, 0), stories_of(COIN, 1, 0)
    ((0, 2), (0, 1, 2))
    >>> tellers_of(PAIR, 0, 1), tellers_of(SEEN, 0, 1)
    ((0,), ())
    >>> order_of(PAIR), order_of(COPY), order_of(COIN)
    (((0, 1),), (), ((0, 2), (1, 2)))
    >>> under_of(COIN, 0), over_of(COIN, 0), over_of(COIN, 2)
    ((0, 2), (0,), (0, 1, 2))
"""


def run(source, names):
    """What the example gives, written as in the document."""
    try:
        return repr(eval(source, names))
    except CourtError as error:
        fields = tuple(vars(error).values())
        return f"{type(error).__name__}: {fields!r}"


def normal(told):
    """What the document tells, written as repr writes it."""
    error = re.fullmatch(r"(\w+): (\(.*\))", told)
    if error:
        return f"{error[1]}: {ast.literal_eval(error[2])!r}"
    return repr(ast.literal_eval(told))


class ExamplesTest(Case):
    def test_examples(self):
        names = {}
        for module, name, _ in listed():
            names[name] = getattr(importlib.import_module("oneistrue." + module), name)
        for module, name, _ in CLASSES:
            names[name] = getattr(importlib.import_module("oneistrue." + module), name)
        rows = [row.strip() for row in EXAMPLES.strip().split("\n")]
        for at, row in enumerate(rows):
            if not row.startswith(">>> "):
                continue
            source = row.removeprefix(">>> ")
            if re.match(r"[\w, ]+ = ", source):
                exec(source, names)
                continue
            with self.subTest(source=source):
                self.assertEqual(run(source, names), normal(rows[at + 1]))
