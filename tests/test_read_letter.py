"""Point [5]: read_letter, and BadLetter(row)."""

import itertools
import random
import unittest

from letterhall.codes import WAYS, best_way, written
from letterhall.errors import BadLetter
from letterhall.letters import letter_rows, letter_text, read_letter
from tests.samples import SOME_WAYS, kinds, letters, part, parts, rows_by, writings_of

HI = ["", "words plain", "hi"]


def some_marks(body, chance, around=()):
    """Marks in the order of their rows, such as none of the parts around has."""
    if body[0] == "words":
        return []
    mark = chance.choice([k for k in (5, 70, 800, 8000, 9999) if k not in around])
    told = [mark]
    for heads, inner in body[1]:
        told.extend(some_marks(inner, chance, around + (mark,)))
    return told


class Reads(unittest.TestCase):

    def reads(self, rows, letter):
        self.assertEqual(kinds(read_letter("\n".join(rows))), kinds(letter))

    def test_what_was_told(self):
        for letter in letters(150):
            for ways in SOME_WAYS:
                if all(best_way(writing, ways=ways) for writing in writings_of(letter[1])):
                    self.assertEqual(kinds(read_letter(letter_text(letter, ways=ways))), kinds(letter))

    def test_any_ways_and_marks(self):
        chance = random.Random(11)
        for letter in letters(300, seed=12):
            marks = some_marks(letter[1], chance)
            ways = [chance.choice([way for way in WAYS if best_way(writing, ways=(way,))])
                    for writing in writings_of(letter[1])]
            self.reads(rows_by(letter, ways, marks), letter)

    def test_any_way_not_only_the_best(self):
        self.reads(["", "words packed", "AGEAYg"], part("ab"))
        self.reads(["", "words marked", "ab"], part("ab"))
        self.reads(["", "words plain", "ab"], part("ab"))

    def test_any_mark(self):
        for mark in ("0", "1", "9", "10", "99", "100", "1000", "9999"):
            self.reads(["", "parts " + mark, "-" + mark] + HI + ["-" + mark + " end"], ((), parts(part("hi"))))

    def test_the_same_mark_side_by_side(self):
        inner = ["", "parts 7", "-7"] + HI + ["-7 end"]
        self.reads(["", "parts 3", "-3"] + inner + ["-3"] + inner + ["-3 end"],
                   ((), parts(((), parts(part("hi"))), ((), parts(part("hi"))))))

    def test_rows_that_only_look_like_marks(self):
        self.reads(["", "words plain", "-0", "-0 end", "parts 0", ""], part("-0\n-0 end\nparts 0\n"))
        self.reads(["", "parts 1", "-1", "", "words plain", "-0", "-10", "-1  end", " -1", "-1 end"],
                   ((), parts(part("-0\n-10\n-1  end\n -1"))))
        inner = ["", "parts 7", "-7"] + HI + ["-7 end"]
        self.reads(["", "parts 3", "-3"] + inner + ["-3", "", "words plain", "-7", "-7 end", "-3 end"],
                   ((), parts(((), parts(part("hi"))), part("-7\n-7 end"))))

    def test_heads(self):
        self.reads(["a: b", "a: ", "a:  ", "abcdefgh: : x: "] + HI,
                   part("hi", ("a", "b"), ("a", ""), ("a", " "), ("abcdefgh", ": x: ")))
        self.reads(["a: b"] * 60 + HI, part("hi", *[("a", "b")] * 60))
        self.reads(["a: " + "x" * 60] + [" " + "y" * 59] * 4 + [" zzzz"] + HI,
                   part("hi", ("a", "x" * 60 + "y" * 236 + "zzzz")))
        self.reads(["a: " + "x" * 60, "b: "] + HI, part("hi", ("a", "x" * 60), ("b", "")))
        self.reads(["a: " + "x" * 60, "  "] + HI, part("hi", ("a", "x" * 60 + " ")))

    def test_three_deep(self):
        self.reads(["", "parts 2", "-2", "", "parts 1", "-1"] + HI + ["-1 end", "-2 end"], ((), parts(((), parts(part("hi"))))))

    def test_four_parts(self):
        self.reads(["", "parts 2"] + (["-2"] + HI) * 4 + ["-2 end"], ((), parts(*[part("hi")] * 4)))


class Refuses(unittest.TestCase):

    def refused(self, rows, row):
        with self.assertRaises(BadLetter, msg=rows) as caught:
            read_letter("\n".join(rows))
        self.assertEqual(caught.exception.row, row, rows)
        self.assertIsInstance(caught.exception, ValueError)

    def test_heads_that_are_none(self):
        for row in ("A: x", "a1: x", "abcdefghi: x", ": x", "a x", "a:x", "a:", "a", "a : x", " a: x", "a:b: x", " ", "x",
                    "a: %", "a: \t", "a: " + chr(233), "a: x\r", "a: " + "x" * 61, "-0", "words plain", "parts 0", "  x"):
            self.refused([row] + HI, 0)
            self.refused(["ok: x", "ok: y", row] + HI, 2)
            self.refused(["", "parts 0", "-0", "ok: x", row] + HI + ["-0 end"], 4)

    def test_further_rows(self):
        full = "a: " + "x" * 60
        for ahead in ("a: ", "a: " + "x" * 59, "a: x"):
            self.refused(["b: c", ahead, " more"] + HI, 2)
        for more in (" ", " " + "y" * 60, " %", " \t", "y", "  " + "y" * 59):
            self.refused(["b: c", full, more] + HI, 2)
        self.refused([full, " " + "y" * 58, " z"] + HI, 2)
        self.refused([full, " " + "y" * 59, " z", " z"] + HI, 3)
        self.refused([full, " y", " "] + HI, 2)

    def test_a_value_beyond_three_hundred(self):
        ahead = ["a: " + "x" * 60] + [" " + "y" * 59] * 4
        self.refused(ahead + [" zzzzz"] + HI, 5)
        self.refused(ahead + [" " + "z" * 59] + HI, 5)
        self.refused(ahead + [" zzzz", " z"] + HI, 6)

    def test_the_sixty_first_head(self):
        self.refused(["a: b"] * 61 + HI, 60)
        self.refused(["a: b"] * 60 + ["A"] + HI, 60)
        self.refused(["a: b"] * 70, 60)
        self.refused(["a: " + "x" * 60, " y"] * 61 + HI, 120)

    def test_the_row_of_a_body(self):
        for row in ("", "words", "words ", "words plain ", "words  plain", "words Plain", "words other", "words 0",
                    "Words plain", " words plain", "plain", "parts", "parts ", "parts plain", "parts 00", "parts 01", "parts 10000",
                    "parts 99999", "parts -1", "parts +1", "parts 1 ", "parts  1", "parts 1 end", "Parts 1", "parts a",
                    "parts 1_0", "parts " + chr(0x663), "parts " + chr(0xB2), "part 1", "-0", "-0 end", "a: b"):
            self.refused(["a: b", "", row, "hi"], 2)
            self.refused(["", "parts 0", "-0", "", row, "hi", "-0 end"], 4)

    def test_a_mark_of_the_parts_around(self):
        self.refused(["", "parts 5", "-5", "", "parts 5", "-5"] + HI + ["-5 end", "-5 end"], 4)
        self.refused(["", "parts 5", "-5"] + HI + ["-5", "", "parts 5", "-5"] + HI + ["-5 end", "-5 end"], 8)

    def test_depth(self):
        self.refused(["", "parts 5", "-5", "", "parts 6", "-6", "", "parts 7", "-7"] + HI + ["-7 end", "-6 end", "-5 end"], 7)

    def test_rows_of_parts(self):
        for row in ("-5 end", "-4", "-4 end", "", "-5 ", "-05", "5", "- 5", "a: b", "words plain", "parts 5", "parts 6"):
            self.refused(["", "parts 5", row] + HI + ["-5 end"], 2)
        self.refused(["", "parts 5"] + (["-5"] + HI) * 5 + ["-5 end"], 18)
        self.refused(["", "parts 5"] + (["-5"] + HI) * 4 + ["-5"], 18)

    def test_rows_behind_an_inner_end(self):
        inner = ["", "parts 5", "-5", "", "parts 6", "-6"] + HI + ["-6 end"]
        for row in ("-6", "-6 end", "-4", "", "x", "-5 End", "-5  end", "a: b", "parts 6", "words plain"):
            self.refused(inner + [row], 10)
            self.refused(inner + [row, "-5 end"], 10)

    def test_rows_behind_the_end(self):
        whole = ["", "parts 5", "-5"] + HI + ["-5 end"]
        for row in ("", "x", "-5", "-5 end", "a: b"):
            self.refused(whole + [row], 7)
            self.refused(whole + [row, row], 7)

    def test_rows_of_a_writing(self):
        for way, rows in (("plain", ["a" * 61]), ("plain", ["ok", "%"]), ("plain", ["\t"]), ("marked", ["=0061"]),
                          ("marked", ["a="]), ("marked", ["a" * 59 + "="]), ("packed", ["A"]), ("packed", ["AAB"]),
                          ("packed", ["AAA", ""]), ("packed", ["A" * 60]), ("plain", [""] * 302),
                          ("marked", ["a" * 50] * 6), ("packed", ["A" * 60] * 13 + ["A" * 23]), ("packed", ["-0"])):
            self.refused(["a: b", "", "words " + way] + rows, 2)
            self.refused(["", "parts 5", "-5", "", "words " + way] + rows + ["-5 end"], 4)
            self.refused(["", "parts 5", "-5", "", "words " + way] + rows + ["-5"] + HI + ["-5 end"], 4)
            self.refused(["", "parts 5", "-5", "", "words " + way] + rows, 4)
            self.refused(["", "parts 5", "-5"] + HI + ["-5", "", "words " + way] + rows + ["-5 end"], 8)

    def test_a_wrong_writing_ahead_of_another_fault(self):
        self.refused(["", "parts 5", "-5", "", "words plain", "%", "-5", "wrong"], 4)
        self.refused(["", "parts 5", "-5", "", "words packed", "A", "-5 end", "more"], 4)

    def test_a_writing_of_no_row(self):
        for way in WAYS:
            self.refused(["", "words " + way], 2)
            self.refused(["", "parts 5", "-5", "", "words " + way], 5)
            self.refused(["", "parts 5", "-5", "", "words " + way, "-5 end"], 5)
            self.refused(["", "parts 5", "-5", "", "words " + way, "-5"] + HI + ["-5 end"], 5)

    def test_marks_that_are_not_the_innermost(self):
        ahead = ["", "parts 5", "-5", "", "parts 6", "-6", "", "words plain"]
        for row in ("-5", "-5 end"):
            self.refused(ahead + ["hi", row], 9)
            self.refused(ahead + ["hi", "", row] + HI + ["-6 end", "-5 end"], 10)
            self.refused(ahead + ["%", row] + HI + ["-6 end", "-5 end"], 7)
            self.refused(ahead + [row] + HI + ["-6 end", "-5 end"], 8)
            self.refused(ahead + ["a" * 61, row, "-6 end", "-5 end"], 7)
            self.refused(ahead + ["hi", "-6 end", row, "-6"], 11)

    def refused_at_end(self, rows):
        self.refused(rows, len(rows))

    def test_something_is_wanting(self):
        for rows in ([""], ["a: b"], ["a: " + "x" * 60], ["a: " + "x" * 60, " y"], ["a: b", ""], ["a: b"] * 60, ["", "words plain"],
                     ["", "parts 5"], ["", "parts 5", "-5"], ["", "parts 5", "-5", ""], ["", "parts 5", "-5", "a: b"],
                     ["", "parts 5", "-5", "", "words plain"], ["", "parts 5", "-5"] + HI,
                     ["", "parts 5"] + (["-5"] + HI) * 4, ["", "parts 5", "-5"] + HI + ["-5"],
                     ["", "parts 5", "-5", "", "parts 6"], ["", "parts 5", "-5", "", "parts 6", "-6"] + HI,
                     ["", "parts 5", "-5", "", "parts 6", "-6"] + HI + ["-6 end"]):
            self.refused_at_end(rows)

    def test_a_bare_text(self):
        with self.assertRaises(BadLetter) as caught:
            read_letter("")
        self.assertEqual(caught.exception.row, 1)


def closings(rows):
    """Rows that could be wanting behind these, such that one of them closes whatever is open."""
    marks = sorted({row[6:] for row in rows if row.startswith("parts ")})
    stacks = [stack for many in range(3) for stack in itertools.permutations(marks, many)]
    ends = [["-" + mark + " end" for mark in stack] for stack in stacks]
    starts = [[], [""], ["words plain", ""], ["", "words plain", ""]]
    starts += [["-" + mark, "", "words plain", ""] for mark in marks]
    return [start + end for start in starts for end in ends]


def is_whole(rows):
    try:
        read_letter("\n".join(rows))
    except BadLetter:
        return False
    return True


def can_begin(rows):
    """Whether some letter's text begins with these rows."""
    return any(is_whole(rows + more) for more in closings(rows))


class FirstRow(unittest.TestCase):
    """That the row told is the first one with which no text begins, over damaged texts."""

    def damaged(self, chance, rows):
        at = chance.randrange(len(rows))
        new = chance.choice(rows + ["", "-0", "-1", "-0 end", "-1 end", "parts 0", "parts 1", "words plain", "a: b", " x", "="])
        pick = chance.randrange(4)
        if pick == 0:
            return rows[:at] + rows[at + 1:]
        if pick == 1:
            return rows[:at] + [new] + rows[at:]
        if pick == 2:
            return rows[:at] + [new] + rows[at + 1:]
        return rows[:at + 1]

    def check(self, rows):
        try:
            read_letter("\n".join(rows))
            return "whole"
        except BadLetter as bad:
            row = bad.row
        self.assertTrue(can_begin(rows[:row]), (rows, row))
        if row == len(rows):
            return "wanting"
        if not can_begin(rows[:row + 1]):
            return "row"
        # Otherwise it's the row of a writing whose rows, to some mark or the end, are none.
        way = rows[row][6:]
        self.assertEqual(rows[row], "words " + way)
        ends = [at for at in range(row + 2, len(rows)) if rows[at].startswith("-")] + [len(rows)]
        self.assertTrue(any(written(rows[row + 1:end], way) is None for end in ends), (rows, row))
        return "writing"

    def test_over_many(self):
        chance = random.Random(2)
        seen = {}
        for letter in letters(250, seed=21):
            rows = letter_rows(letter)
            if len(rows) < 120:
                for k in range(4):
                    sort = self.check(self.damaged(chance, rows))
                    seen[sort] = seen.get(sort, 0) + 1
        for sort in ("whole", "wanting", "row", "writing"):
            self.assertGreater(seen.get(sort, 0), 10, seen)

    def test_each_beginning_of_a_text(self):
        for letter in letters(60, seed=22):
            rows = letter_rows(letter)
            for many in range(1, min(len(rows), 60)):
                self.assertIn(self.check(rows[:many]), ("whole", "wanting", "writing"))


if __name__ == "__main__":
    unittest.main()
