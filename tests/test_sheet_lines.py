"""Point [22]: sheets that are refused ahead of all with BadLine."""

import random
import re
import unittest

from letterhall.errors import BadLine
from letterhall.sheet import run
from letterhall.texts import plan_text
from tests.halls import Walk
from tests.sheets import SheetChance
from tests.test_plan_texts import plain_reading
from tests.test_sheet import PLAN

# How many rows there are with begin, so the number of the first row behind it.
FIRST = PLAN.count("\n") + 2

NAME = "[a-z]{1,8}"
NUMBER = "(?:0|[1-9][0-9]{0,5})"
ADDRESS = NAME + "@" + NAME
KINDS = {
    "ADDRESS": ADDRESS, "TO": ADDRESS + "(?:," + ADDRESS + "){0,3}", "ABOUT": "(?:-|[a-z0-9_]{1,40})", "SIGNS": "(?:-|[a-z0-9_]+)", "NUMBER": NUMBER, "PIECE": NUMBER,
    "MANY": "(?:[1-9]|[1-4][0-9]|50)", "TICKS": "(?:[1-9][0-9]?|[123][0-9][0-9]|400)", "HOUSE": NAME, "BOX": NAME, "NAME": NAME, "WORD": "[a-z0-9]{1,12}", "TEXT": "[a-z0-9_]{1,40}",
}
FORMS = [
    "send ADDRESS TO ABOUT SIGNS", "answer NUMBER ADDRESS TO ABOUT SIGNS", "tick MANY", "shut HOUSE", "wake HOUSE", "cut HOUSE HOUSE", "tie HOUSE HOUSE",
    "on ADDRESS ADDRESS", "into ADDRESS BOX WORD", "says ADDRESS TEXT", "file ADDRESS PIECE BOX", "mark ADDRESS PIECE NAME", "drop ADDRESS PIECE",
    "term ADDRESS BOX TICKS", "hold WORD", "release NUMBER", "desk ADDRESS", "meet NUMBER", "where NUMBER", "box ADDRESS BOX", "find ADDRESS WORD", "queue HOUSE", "now",
]
PATTERNS = [re.compile(" ".join(KINDS.get(word, word) for word in form.split(" "))) for form in FORMS]


def is_written(row):
    """Whether a row behind begin is so written, told once more."""
    if not any(pattern.fullmatch(row) for pattern in PATTERNS):
        return False
    for word in row.split(" "):
        if "," in word and len(set(word.split(","))) < len(word.split(",")):
            return False
    return True


def plain_line(text):
    """The number with which a sheet is refused, None where it isn't, told once more."""
    rows = text.split("\n")
    begin = rows.index("begin") if "begin" in rows else len(rows)
    plan = plain_reading(rows[:begin])
    if isinstance(plan, int) and plan < begin:
        return plan
    for at in range(begin + 1, len(rows)):
        if not is_written(rows[at]):
            return at
    return len(rows) if begin == len(rows) or isinstance(plan, int) else None


def line_of(text):
    """The number with which a sheet is refused, None where it isn't."""
    try:
        run(text)
    except BadLine as error:
        return error.line
    return None


def sheet(*rows):
    return "\n".join([PLAN, "begin", *rows])


RIGHT = [
    "send ann@elm bob@elm hi x", "send a@b c@d - -", "send ann@elm a@b,c@d,e@f,g@h - -", "send ann@elm a@b _ 0", "send ann@elm a@b " + "x" * 40 + " x",
    "send ann@elm a@b - " + "x" * 90, "answer 0 ann@elm a@b - -", "answer 999999 ann@elm a@b,b@a - -", "tick 1", "tick 50", "shut elm", "wake abcdefgh", "cut a b", "tie elm elm",
    "on ann@elm a@b", "into ann@elm old " + "x" * 12, "into ann@elm old 0", "says ann@elm x", "says ann@elm _", "says ann@elm " + "_" * 40, "file ann@elm 0 in", "file ann@elm 999999 old",
    "mark ann@elm 0 abcdefgh", "drop ann@elm 10", "term ann@elm in 1", "term ann@elm in 400", "hold x", "hold " + "9" * 12, "release 0", "desk a@b", "meet 0", "where 0", "where 100000",
    "box ann@elm in", "find ann@elm x", "find ann@elm " + "z" * 12, "queue elm", "now",
]
WRONG = [
    "", " ", "begin", "house elm 400 plain", "one ann", "list all ann@elm", "link elm oak 2", "nod", "Now", "now ", " now", "now now", "now 0", "NOW", "boxes ann@elm", "share ann@elm in bob@elm see",
    "away 1 drop 0", "rule ann@elm", "held 0", "pieces ann@elm in",
    "send", "send ann@elm", "send ann@elm bob@elm hi", "send ann@elm bob@elm hi x x", "send  ann@elm bob@elm hi x", "send ann@elm  bob@elm hi x", " send ann@elm bob@elm hi x",
    "send ann@elm bob@elm hi x ", "send ann@elm bob@elm hi  ", "send ann@elm bob@elm hi ", "send ann bob@elm hi x", "send ann@elm bob hi x", "send Ann@elm bob@elm hi x", "send ann@elm@oak bob@elm hi x",
    "send annannann@elm bob@elm hi x", "send ann@elm bob@elm,bob@elm hi x", "send ann@elm bob@elm,a@b,bob@elm hi x", "send ann@elm a@b,c@d,e@f,g@h,i@j hi x", "send ann@elm bob@elm, hi x",
    "send ann@elm ,bob@elm hi x", "send ann@elm bob@elm,,a@b hi x", "send ann@elm - hi x", "send ann@elm bob@elm hi! x", "send ann@elm bob@elm hi x.", "send ann@elm bob@elm Hi x",
    "send ann@elm bob@elm hi X", "send ann@elm bob@elm -- x", "send ann@elm bob@elm a-b x", "send ann@elm bob@elm hi -x", "send ann@elm bob@elm hi x-", "send ann@elm bob@elm " + "x" * 41 + " x",
    "send ann@elm,bob@elm bob@elm hi x", "answer ann@elm bob@elm hi x", "answer 00 ann@elm bob@elm hi x", "answer -1 ann@elm bob@elm hi x", "answer x ann@elm bob@elm hi x",
    "answer 1000000 ann@elm bob@elm hi x", "answer 0 ann@elm bob@elm hi", "answer 0 ann@elm bob@elm hi x x", "answer 0 ann@elm a@b,a@b hi x", "answer 0 ann@elm bob@elm " + "x" * 41 + " x",
    "tick", "tick 0", "tick 51", "tick 01", "tick -1", "tick x", "tick 1 1", "tick 1 ", "tick  1", "tick 100", "tick 1000000", "tick +1", "tick 1.", "shut", "shut Elm", "shut elm oak", "shut abcdefghi", "shut 1",
    "shut ", "wake", "wake elm oak", "wake a_b", "cut elm", "cut", "cut elm oak ash", "cut elm Oak", "cut elm  oak", "tie elm", "tie elm oak ash", "tie 1 2", "on ann@elm", "on ann@elm bob", "on ann@elm a@b,c@d",
    "on ann@elm a@b c@d", "on ann bob@elm", "into ann@elm old", "into ann@elm old tea x", "into ann@elm Old tea", "into ann@elm old Tea", "into ann@elm old a_b", "into ann@elm old -",
    "into ann@elm old " + "x" * 13, "into ann@elm abcdefghi tea", "into ann old tea", "says ann@elm", "says ann@elm -", "says ann@elm a-b", "says ann@elm " + "x" * 41, "says ann@elm a b", "says ann@elm A",
    "says ann x", "says ann@elm ", "file ann@elm 0", "file ann@elm in 0", "file ann@elm 00 in", "file ann@elm 0 in in", "file ann@elm 0 In", "file ann@elm 0 abcdefghi", "file ann 0 in", "file ann@elm -1 in",
    "file ann@elm 1234567 in", "mark ann@elm 0", "mark ann@elm 0 hot yes", "mark ann@elm x hot", "mark ann@elm 0 a1", "mark ann@elm 01 hot", "drop ann@elm", "drop ann@elm x", "drop ann@elm 0 0", "drop 0",
    "drop ann@elm 00", "term ann@elm in", "term ann@elm in 0", "term ann@elm in 401", "term ann@elm in -", "term ann@elm in none", "term ann@elm in 010", "term ann@elm 1 in", "term ann@elm in 1 1", "hold",
    "hold a b", "hold -", "hold _", "hold Tea", "hold " + "x" * 13, "hold a@b", "release", "release x", "release 00", "release 0 0", "release -1", "desk", "desk ann", "desk ann@elm bob@elm", "desk 1", "meet",
    "meet x", "meet 01", "meet 1 1", "meet 1234567", "where", "where x", "where 00", "where 0 0", "where 1000000", "box", "box ann@elm", "box ann@elm in in", "box in ann@elm", "box ann@elm I", "box ann@elm abcdefghi",
    "find ann@elm", "find ann@elm Tea", "find ann@elm a b", "find ann@elm " + "x" * 13, "find ann@elm -", "find tea", "queue", "queue elm oak", "queue a@b", "queue Elm", "now\t",
]


class Lines(unittest.TestCase):

    def test_rows_that_are_so_written(self):
        self.assertEqual({row.split(" ")[0] for row in RIGHT}, {form.split(" ")[0] for form in FORMS})
        for row in RIGHT:
            self.assertTrue(is_written(row), row)
            self.assertIsNone(line_of(sheet(row)), row)
            self.assertEqual(len(run(sheet(row, row))), 2)
        self.assertEqual(len(run(sheet(*RIGHT))), len(RIGHT))

    def test_rows_that_are_not(self):
        for row in WRONG:
            self.assertFalse(is_written(row), row)
            self.assertEqual(line_of(sheet(row)), FIRST, row)
            self.assertEqual(line_of(sheet("now", "tick 1", row, "now")), FIRST + 2, row)
            self.assertEqual(line_of(sheet("now", row, "no row", "begin")), FIRST + 1, row)

    def test_the_class_and_its_field(self):
        with self.assertRaises(ValueError) as caught:
            run("")
        self.assertIs(type(caught.exception), BadLine)
        self.assertEqual(vars(caught.exception), {"line": 0})

    def test_rows_ahead_of_begin(self):
        rows = PLAN.split("\n")
        for at in range(len(rows)):
            for row in ("now", "", "send ann@elm bob@elm - -", "tick 1", "house x", "begins", "begin ", " begin", "Begin"):
                changed = rows[:at] + [row] + rows[at:]
                self.assertEqual(line_of("\n".join(changed + ["begin", "now"])), at)
                self.assertEqual(line_of("\n".join(changed + ["begin", "no row"])), at)
                self.assertEqual(line_of("\n".join(changed)), at)
        self.assertEqual(line_of("\n".join(["one ann", *rows, "begin"])), 0)
        self.assertEqual(line_of("\n".join([*rows, "one fay", "begin"])), len(rows))
        self.assertEqual(line_of("\n".join([*rows, "link elm ash 1", "begin"])), None)

    def test_begin_wanting(self):
        self.assertEqual(line_of(PLAN), FIRST - 1)
        self.assertEqual(line_of(PLAN + "\nnow"), FIRST - 1)
        self.assertEqual(line_of(PLAN + "\n"), FIRST - 1)
        self.assertEqual(line_of("house elm 1 plain"), 1)
        self.assertEqual(line_of(""), 0)
        self.assertEqual(line_of("now"), 0)

    def test_begin_twice(self):
        self.assertEqual(line_of(sheet("begin")), FIRST)
        self.assertEqual(line_of(sheet("now", "begin", "now")), FIRST + 1)
        self.assertEqual(line_of("begin\nbegin"), 1)

    def test_begin_the_first_row(self):
        self.assertEqual(line_of("begin"), 1)
        self.assertEqual(line_of("begin\nnow"), 2)
        self.assertEqual(line_of("begin\nnow\ntick 1"), 3)
        self.assertEqual(line_of("begin\nnow\ntick 0"), 2)
        self.assertEqual(line_of("begin\n" + PLAN), 1)
        self.assertEqual(line_of("\nbegin"), 0)

    def test_a_plan_that_is_none(self):
        for plan in ("house elm 400 plain", "house elm 1 plain\none ann", "house elm 400 plain plain\none ann", "house elm 400 plain\none ann\none ann",
                     "house elm 400 plain\none ann\nlink elm oak 1", PLAN + "\nlink oak elm 2", PLAN + "\nlink elm ash 5", PLAN.replace("one eve", "one post")):
            many = plan.count("\n") + 1
            self.assertEqual(line_of(plan + "\nbegin"), many + 1)
            self.assertEqual(line_of(plan + "\nbegin\nnow\nnow"), many + 3)
            # A row that isn't so written goes first.
            self.assertEqual(line_of(plan + "\nbegin\nnow\nno row"), many + 2)

    def test_a_line_feed_at_the_end(self):
        self.assertEqual(line_of(sheet("now") + "\n"), FIRST + 1)
        self.assertEqual(line_of(PLAN + "\nbegin\n"), FIRST)

    def test_with_chance(self):
        chance = random.Random(22)
        words = ["send", "tick", "now", "begin", "house", "one", "ann@elm", "a@b,c@d", "a@b,a@b", "0", "00", "51", "401", "-", "_", "tea", "in", "", "x" * 13, "x" * 41, "abcdefghi", "X"]
        seen = {"row": 0, "count": 0, None: 0}
        for turn in range(3000):
            walk = Walk(turn % 30)
            rows = plan_text(walk.hall.plan).split("\n") + ["begin"] + [SheetChance(chance, walk).row() for k in range(chance.randint(0, 6))]
            for change in range(chance.choice((0, 1, 1, 2))):
                at = chance.randrange(len(rows))
                kind = chance.randrange(5)
                if kind == 0 and len(rows) > 1:
                    rows.pop(at)
                elif kind == 1:
                    rows.insert(at, rows[chance.randrange(len(rows))])
                else:
                    parts = rows[at].split(" ")
                    place = chance.randrange(len(parts))
                    parts[place:place + chance.randrange(2)] = chance.sample(words, chance.choice((0, 1, 1, 2)))
                    rows[at] = " ".join(parts)
            text = "\n".join(rows)
            expected = plain_line(text)
            self.assertEqual(line_of(text), expected, text)
            seen[None if expected is None else "count" if expected == len(rows) else "row"] += 1
        self.assertGreater(min(seen.values()), 100, seen)


if __name__ == "__main__":
    unittest.main()
