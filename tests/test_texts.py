"""[21] foldertexts and courttexts, and their consequences in [22]."""

from oneistrue.courtchecker import is_court
from oneistrue.courttexts import court_text, read_court
from oneistrue.errors import CourtError
from oneistrue.folders import lets_folder
from oneistrue.foldertexts import folder_text, read_folder
from tests.support import COIN, EXAMPLES, MIXED, PAIR, SEEN, STEP, Case, made_courts
from tests.test_folders import made_folders

NO_STRINGS = (None, True, 0, 1, (), [], ("facts",), ["facts"], PAIR)
NOT_NUMBERS = ("", "-", "-1", "+1", "01", "00", "1.", "x", "1x", "x1", "1,", "0x1", "1_0", "1/1", "*")
NOT_POSITIVES = NOT_NUMBERS + ("0",)
NOT_QUOTIENTS = (
    "", "/", "1", "1/", "/1", "2/4", "0/2", "-0/1", "1/0", "0/0", "1/-1", "--1/2", "+1/2", "01/2", "1/02", "1/1/1",
    "1:2", "x/1", "1/x", "-/1", "-1", "1//2", "-01/2",
)
NOT_PAIRS = ("", ":", "0", "0:", ":0", "0:0:0", "00:1", "0:01", "-1:0", "0:-1", "0,1", "0/1", "x:1", "1:x")
NOT_CONDITIONS = (
    "", "0", "0=", "=0", "=", "!", "0==1", "0!!1", "0!=1", "0=!1", "0=1=1", "0=1!1", "0!1=1", "00=1", "0=01", "-1=0", "0=-1",
    "0:1", "*&0=1", "0=1&*", "**", "0=1&", "&0=1", "0=1&&0=1", "0=1|", "|0=1", "|", "0=1||0=1", "-|0=1", "0=1|-", "--",
    "-&0=1", "*|", "&", "x", "0=x", "x=0", "True", "()",
)
VALUES = {
    "out": ("0", NOT_NUMBERS + ("1",)),
    "weight": ("12", NOT_POSITIVES),
    "up": ("1", NOT_POSITIVES),
    "down": ("60", NOT_POSITIVES),
    "right": ("-1/2", NOT_QUOTIENTS),
    "claimant": ("0:3", NOT_PAIRS),
    "defendant": ("1:0", NOT_PAIRS),
    "sight": ("0", NOT_NUMBERS),
}
SIGNS = " \n0123456789/,.-:=!&|*xfout"
COURT_WORDS = (
    (NOT_POSITIVES, "1"),
    (NOT_QUOTIENTS, "1/2"),
    (("", ",", "1", "1,", ",1", "1,1,1", "0,1", "1,0", "01,1", "1,-1", "1.1", "1,x"), "1,1"),
    (("", ".", "1.", ".1", "--", "1..2", "01", "1.-", "-1", "1,2", "x", "-.1", "1.x"), "0.10"),
    (("", ".", "1.", ".1", "--", "1..2", "01", "1.-", "-1", "1,2", "x", "-.1", "1.x"), "-"),
    (NOT_NUMBERS, "0"),
)


def changed_texts(text):
    """The text with a sign taken out, put in, changed, or twice, and cut off."""
    for at in range(len(text) + 1):
        yield text[:at]
        yield text[:at] + text[at + 1:]
        yield text[:at] + text[at:at + 1] * 2 + text[at + 1:]
        for sign in SIGNS:
            yield text[:at] + sign + text[at:]
            yield text[:at] + sign + text[at + 1:]
    yield text + "\n"
    yield "\n" + text


class FolderTextTest(Case):
    def test_written_word_by_word(self):
        facts = ((3, 1), (10,))
        lines = (
            ("out", 0, ()), ("weight", 12, ((),)), ("up", 2, ((), ())), ("down", 3, (((0, True, 1),),)),
            ("right", (3, 1), (((0, True, 1), (1, False, 0)),)), ("right", (-1, 2), (((0, False, 0),), ())),
            ("claimant", (0, 2), ()), ("defendant", (1, 0), ()), ("sight", 7, ((), ((1, True, 0),))),
        )
        text = (
            "facts 3,1 10\nout 0 -\nweight 12 *\nup 2 *|*\ndown 3 0=1\nright 3/1 0=1&1!0\nright -1/2 0!0|*\n"
            "claimant 0:2 -\ndefendant 1:0 -\nsight 7 *|1=0"
        )
        self.same(folder_text((facts, lines)), text)
        self.same(folder_text(folder=(facts, lines)), text)
        self.same(read_folder(text), (facts, lines))
        self.same(read_folder(text=text), (facts, lines))

    def test_without_facts_or_lines(self):
        for folder, text in ((((), ()), "facts"), ((((1,),), ()), "facts 1"), (((), (("up", 2, ((),)),)), "facts\nup 2 *")):
            self.same(folder_text(folder), text)
            self.same(read_folder(text), folder)

    def test_there_and_back(self):
        for folder in [STEP] + made_folders(300, 3):
            self.same(read_folder(folder_text(folder)), folder)

    def test_no_strings(self):
        for bad in NO_STRINGS:
            self.refuses("text", read_folder, bad)
            self.refuses("text", read_folder, text=bad)

    def check_text(self, text, line, field):
        with self.subTest(text=text):
            self.raises("InvalidText", {"line": line, "field": field}, read_folder, text)

    def test_row_of_facts(self):
        for word in ("", "Facts", "fact", "facts,", "1", "factsfacts", "\tfacts", "out"):
            self.check_text(word, 0, 0)
            self.check_text(word + " 1\nup 1 *", 0, 0)
        for bad in ("", ",", "0", "1,", ",1", "1,,1", "01", "1,0", "-1", "+1", "x", "1,x", "1.1", "facts"):
            self.check_text("facts " + bad, 0, 1)
            self.check_text("facts 1 2,3 " + bad + " " + bad, 0, 3)
        self.check_text("facts  1", 0, 1)
        self.check_text(" facts 1", 0, 0)
        self.check_text("facts 1 ", 0, 2)

    def test_words_of_lines(self):
        for row in (1, 3):
            head = "facts 1,1 1" + "\nup 1 *" * (row - 1) + "\n"
            for word in ("", "facts", "Out", "weights", "x", "-", "0"):
                self.check_text(head + word, row, 0)
                self.check_text(head + word + " 1 *", row, 0)
                self.check_text(head + word + " 1 *\nx", row, 0)
            for word, (good, wrong) in VALUES.items():
                self.check_text(head + word, row, 1)
                for bad in wrong:
                    self.check_text(head + word + " " + bad, row, 1)
                    self.check_text(head + word + " " + bad + " ?", row, 1)
                self.check_text(head + word + " " + good, row, 2)
                for bad in NOT_CONDITIONS:
                    self.check_text(head + word + " " + good + " " + bad, row, 2)
                for more in ("", "*", "x"):
                    self.check_text(head + word + " " + good + " * " + more, row, 3)
            self.check_text(head + " up 1 *", row, 0)
            self.check_text(head + "up  1 *", row, 1)
            self.check_text(head + "up 1  *", row, 2)

    def test_a_newline_at_the_end_and_the_empty_text(self):
        self.check_text("", 0, 0)
        self.check_text("\n", 0, 0)
        self.check_text("facts 1\n", 1, 0)
        self.check_text("facts 1\nup 1 *\n", 2, 0)
        self.check_text("facts 1\n\nup 1 *", 1, 0)

    def test_the_first_row_is_told(self):
        self.check_text("facts 1\nup 1 *\nup 0 *\nx", 2, 1)
        self.check_text("facts 0\nx", 0, 1)

    def test_rows(self):
        def check(text, row):
            with self.subTest(text=text):
                self.raises("InvalidRow", {"row": row}, read_folder, text)

        many = ",".join(["1"] * 65)
        check("facts " + many, 0)
        check("facts 1,1 1,1 1,1 1,1 1,1 1,1 1,1", 0)
        check("facts " + many + "\nup 1 9=9", 0)
        check("facts\nup 1 0=0", 1)
        check("facts 1,1\nup 1 0=1\nup 1 0=2\nup 1 1=0", 2)
        check("facts 1,1\nup 1 *|0!0&0!2", 1)
        check("facts 1,1\nout 0 *\nup 1 1=0", 2)
        check("facts 1,1\nout 0 *", 2)
        check("facts\nout 0 *", 2)
        check("facts 1,1\nup 1 *\nout 0 0=0\nout 0 0=1\nup 1 *", 5)
        self.same(lets_folder(read_folder("facts " + ",".join(["1"] * 64))), 64)

    def test_text_ahead_of_row(self):
        self.check_text("facts " + ",".join(["1"] * 65) + "\nup 0 *", 1, 1)
        self.check_text("facts 1\nup 1 9=9\nup 1 * *", 2, 3)
        self.check_text("facts 1\nout 0 *\nx", 2, 0)

    def test_changed_texts(self):
        text = "facts 3,1 1,2\nout 0 0=1&1=1|-\nclaimant 0:2 0!0|*\nright -1/2 *\nup 10 -"
        self.check_text(text, 1, 2)
        for start in (text.replace("|-", ""), folder_text(STEP), "facts"):
            told = read_folder(start)
            for changed in changed_texts(start):
                try:
                    result = read_folder(changed)
                except CourtError as error:
                    self.assertIn(type(error).__name__, ("InvalidText", "InvalidRow"), changed)
                    continue
                lets_folder(result)
                self.same(folder_text(result), changed)
                self.assertEqual(result == told, changed == start)


class CourtTextTest(Case):
    def test_written_word_by_word(self):
        text = "2 1/2 1,3 1.2 0 5\n1 -3/1 2,1 0.1 1 5\n4 7/3 1,1 0.1 1 5\n1 0/1 5,2 1.2 0 0"
        self.same(court_text(MIXED), text)
        self.same(court_text(court=MIXED), text)
        self.same(read_court(text), MIXED)
        self.same(read_court(text=text), MIXED)
        self.same(court_text(COIN), "1 0/1 1,1 1.0 - 0\n1 0/1 1,1 0.1 - 0\n1 3/1 1,1 0.0 - 0")

    def test_there_and_back(self):
        for court in EXAMPLES + tuple(made_courts(200)):
            self.same(read_court(court_text(court)), court)

    def test_no_strings(self):
        for bad in NO_STRINGS:
            self.refuses("text", read_court, bad)
            self.refuses("text", read_court, text=bad)

    def check_text(self, text, line, field):
        with self.subTest(text=text):
            self.raises("InvalidText", {"line": line, "field": field}, read_court, text)

    def test_words(self):
        good = [word for _, word in COURT_WORDS]
        self.same(read_court(" ".join(good)), ((1, (1, 2), (1, 1), ((0, 10), ()), 0),))
        for row in (0, 2):
            head = (" ".join(good) + "\n") * row
            for field, (wrong, _) in enumerate(COURT_WORDS):
                before = head + "".join(word + " " for word in good[:field])
                if field > 0:
                    self.check_text(before[:-1], row, field)
                for bad in wrong:
                    self.check_text(before + bad, row, field)
                    self.check_text(before + " ".join([bad] + good[field + 1:]), row, field)
                    self.check_text(before + bad + " ? ?\nx", row, field)
            for more in ("", "0", "x"):
                self.check_text(head + " ".join(good) + " " + more, row, 6)
            self.check_text(head + " " + " ".join(good), row, 0)

    def test_a_newline_at_the_end_and_the_empty_text(self):
        self.check_text("", 0, 0)
        self.check_text("\n", 0, 0)
        self.check_text(court_text(PAIR) + "\n", 2, 0)
        self.check_text(court_text(PAIR).replace("\n", "\n\n"), 1, 0)

    def test_rows(self):
        row = "1 0/1 1,1 {} {} 0"
        for first, second, bad in (
            (("-", "-"), ("0", "-"), 1), (("-", "-"), ("-", "0"), 1), (("0.1", "2"), ("0", "2"), 1), (("0.1", "2"), ("2", "0.1"), 1),
            (("0.1", "2"), ("0.1.0", "2"), 1), (("0", "2"), ("0", "-"), 1),
        ):
            rows = [row.format(*first), row.format(*first), row.format(*second)]
            self.raises("InvalidRow", {"row": 2}, read_court, "\n".join(rows))
            self.raises("InvalidRow", {"row": 1}, read_court, "\n".join(rows[1:] + rows[1:]))
            self.check_text("\n".join(rows + ["x"]), 3, 0)
        self.same(is_court(read_court("\n".join([row.format("0.1", "2"), row.format("5.5", "0")]))), True)

    def test_changed_texts(self):
        for court in (SEEN, MIXED[:2], PAIR):
            text = court_text(court)
            for changed in changed_texts(text):
                try:
                    result = read_court(changed)
                except CourtError as error:
                    self.assertIn(type(error).__name__, ("InvalidText", "InvalidRow"), changed)
                    continue
                self.same(is_court(result), True)
                self.same(court_text(result), changed)
                self.assertEqual(result == court, changed == text)
