"""Point [5]: letter_rows, letter_text."""

import unittest

from letterhall.codes import WAYS, best_way
from letterhall.errors import NoWay
from letterhall.letters import letter_rows, letter_text
from tests.samples import SOME_WAYS, letters, part, parts, rows_by, signs, writings_of


def marks_of(body, ways):
    """The marks of a body's parts, in the order of their rows, by trying from 0 on."""
    if body[0] == "words":
        return []
    inner = []
    rows = []
    for one in body[1]:
        marks = marks_of(one[1], ways)
        inner.extend(marks)
        rows.extend(rows_by(one, [best_way(writing, ways=ways) for writing in writings_of(one[1])], list(marks)))
    mark = next(k for k in range(9999) if "-" + str(k) not in rows and "-" + str(k) + " end" not in rows)
    return [mark] + inner


class Rows(unittest.TestCase):

    def test_words(self):
        self.assertEqual(letter_rows(part("hi\nyou", ("to", "ann"))), ["to: ann", "", "words plain", "hi", "you"])
        self.assertEqual(letter_rows(part("")), ["", "words plain", ""])
        self.assertEqual(letter_rows(part("a\n")), ["", "words plain", "a", ""])
        self.assertEqual(letter_rows(((), ("words", (0, 1, 2)))), ["", "words packed", "AAAAAQAC"])
        self.assertEqual(letter_rows(((), ("words", (37, 97, 97, 97, 97)))), ["", "words marked", "=0025aaaa"])

    def test_several_heads_of_one_name(self):
        told = letter_rows(part("x", ("to", "a"), ("by", ""), ("to", "a"), ("to", "b")))
        self.assertEqual(told, ["to: a", "by: ", "to: a", "to: b", "", "words plain", "x"])

    def test_long_values(self):
        value = "".join(chr(97 + k % 26) for k in range(300))
        for many, sizes in ((0, [0]), (59, [59]), (60, [60]), (61, [60, 1]), (118, [60, 58]), (119, [60, 59]),
                            (120, [60, 59, 1]), (178, [60, 59, 59]), (179, [60, 59, 59, 1]),
                            (300, [60, 59, 59, 59, 59, 4])):
            rows = letter_rows(part("x", ("about", value[:many]), ("to", "a")))
            heads = rows[:rows.index("to: a")]
            self.assertEqual([len(row) for row in heads], [sizes[0] + 7] + [size + 1 for size in sizes[1:]])
            self.assertEqual(heads[0][:7], "about: ")
            self.assertTrue(all(row[0] == " " for row in heads[1:]))
            self.assertEqual(heads[0][7:] + "".join(row[1:] for row in heads[1:]), value[:many])

    def test_blanks_in_values(self):
        self.assertEqual(letter_rows(part("", ("a", " " * 62)))[:2], ["a:  " + " " * 59, "   "])

    def test_the_best_of_the_ways(self):
        for ways in SOME_WAYS:
            for text in ("ab", "a=b", "a" * 61, "a\n" * 9):
                best = best_way(signs(text), ways=ways)
                if best is not None:
                    self.assertEqual(letter_rows(part(text), ways=ways)[1], "words " + best)
        self.assertEqual(letter_rows(part("ab"), ways=("packed",))[1:], ["words packed", "AGEAYg"])
        self.assertEqual(letter_rows(part("ab"), ways=("packed", "marked"))[1:], ["words marked", "ab"])

    def test_parts(self):
        letter = ((("to", "a"),), parts(part("x", ("name", "one")), part("")))
        self.assertEqual(letter_rows(letter), ["to: a", "", "parts 0", "-0", "name: one", "", "words plain", "x", "-0", "",
                                               "words plain", "", "-0 end"])

    def test_parts_within_parts(self):
        letter = ((), parts(((("a", ""),), parts(part("x"))), part("y")))
        self.assertEqual(letter_rows(letter), ["", "parts 1", "-1", "a: ", "", "parts 0", "-0", "", "words plain", "x",
                                               "-0 end", "-1", "", "words plain", "y", "-1 end"])
        beside = ((), parts(((), parts(part("x"))), ((), parts(part("y")))))
        self.assertEqual(letter_rows(beside), ["", "parts 1", "-1", "", "parts 0", "-0", "", "words plain", "x", "-0 end",
                                               "-1", "", "parts 0", "-0", "", "words plain", "y", "-0 end", "-1 end"])

    def mark(self, letter, told, **ways):
        self.assertEqual(letter_rows(letter, **ways)[1], "parts " + told)

    def test_marks_that_writings_look_like(self):
        for text, told in (("-0", "1"), ("-0 end", "1"), ("-0\n-1 end\n-2", "3"), ("-1", "0"), ("-0 ", "0"), (" -0", "0"),
                           ("-00", "0"), ("-0 ends", "0"), ("-0 End", "0"), ("-01", "0"), ("x-0", "0"), ("a\n-0", "1"),
                           ("-1\n-0", "2"), ("-2 end\n-0 end", "1"),
                           ("\n".join("-" + str(k) for k in range(12)), "12")):
            self.mark(((), parts(part("x"), part(text))), told)
        self.mark(((), parts(part("-0"), part("-1"), part("-2"), part("-3 end"))), "4")

    def test_marks_go_by_the_rows_not_the_writing(self):
        self.mark(((), parts(part("-0"))), "0", ways=("packed",))
        self.mark(((), parts(part("-0"))), "1", ways=("marked",))

    def test_marks_and_inner_marks(self):
        self.mark(((), parts(((), parts(part("-0"))))), "2")
        self.mark(((), parts(((), parts(part("-0"), part("-1"))))), "3")
        self.mark(((), parts(((), parts(part("-1"))))), "2")
        self.mark(((), parts(((), parts(part("x"))), part("-1"))), "2")

    def test_a_mark_is_not_kept_from_rows_outside_its_parts(self):
        rows = letter_rows(((), parts(part("-0"), ((), parts(part("x"))))))
        self.assertEqual([row for row in rows if row.startswith("parts")], ["parts 1", "parts 0"])

    def test_as_told_over_many(self):
        for letter in letters(150):
            for ways in (WAYS, ("packed",), ("packed", "marked"), ("marked",)):
                best = [best_way(writing, ways=ways) for writing in writings_of(letter[1])]
                self.assertEqual(letter_rows(letter, ways=ways), rows_by(letter, best, marks_of(letter[1], ways)))

    def test_no_way(self):
        odd = ((), ("words", (0,)))
        for letter in (odd, ((), parts(odd)), ((), parts(part("x"), ((), parts(part("x"), odd)))), part("a" * 61)):
            for tell in (letter_rows, letter_text):
                with self.assertRaises(NoWay) as caught:
                    tell(letter, ways=("plain",))
                self.assertIsInstance(caught.exception, RuntimeError)
                with self.assertRaises(NoWay):
                    tell(letter, ways=())
                tell(letter, ways=("plain", "packed"))
        with self.assertRaises(NoWay):
            letter_rows(part(""), ways=())

    def test_ways_left_out_are_all(self):
        for letter in letters(30):
            self.assertEqual(letter_rows(letter), letter_rows(letter, ways=WAYS))
            self.assertEqual(letter_text(letter), letter_text(letter, ways=WAYS))


class Text(unittest.TestCase):

    def test_rows_parted_by_line_feeds(self):
        self.assertEqual(letter_text(part("hi", ("to", "ann"))), "to: ann\n\nwords plain\nhi")
        self.assertEqual(letter_text(((), parts(part("hi")))), "\nparts 0\n-0\n\nwords plain\nhi\n-0 end")

    def test_a_last_row_that_is_bare(self):
        self.assertEqual(letter_text(part("")), "\nwords plain\n")
        self.assertEqual(letter_text(part("a\n")), "\nwords plain\na\n")

    def test_over_many(self):
        for letter in letters(60):
            for ways in (WAYS, ("packed",)):
                self.assertEqual(letter_text(letter, ways=ways), "\n".join(letter_rows(letter, ways=ways)))


if __name__ == "__main__":
    unittest.main()
