"""Point [4]: is_body, is_letter."""

import unittest

from letterhall.letters import is_body, is_letter
from tests.samples import kinds, letters, listed, odd_things, part, parts, words


class Kinds(unittest.TestCase):

    def body(self, thing, told):
        self.assertIs(is_body(thing), told, repr(thing)[:200])
        self.assertIs(is_letter(((), thing)), told, repr(thing)[:200])
        self.assertIs(is_letter(thing), False)

    def heads(self, thing, told):
        self.assertIs(is_letter((thing, words(""))), told, repr(thing)[:200])
        self.assertIs(is_body(("parts", ((thing, words("")),))), told)
        self.assertIs(is_body(("parts", (part(""), (thing, words("")), part("")))), told)

    def test_many_letters(self):
        for letter in letters(100):
            self.assertIs(is_letter(letter), True)
            self.assertIs(is_body(letter[1]), True)
            self.assertIs(is_body(letter), False)

    def test_how_many_heads(self):
        head = ("to", "x")
        for many, told in ((0, True), (1, True), (60, True), (61, False)):
            self.heads((head,) * many, told)

    def test_values(self):
        for value, told in (("", True), ("x" * 300, True), ("x" * 301, False), (" " * 300, True), ("~ !$&", True),
                            ("a%", False), ("a\nb", False), ("\n", False), ("a\t", False), (chr(127), False),
                            (chr(233), False), (chr(31), False), (7, False), (None, False), ((), False), (True, False),
                            (b"x", False)):
            self.heads((("to", value),), told)
            self.heads((("a", ""), ("to", value)), told)

    def test_names(self):
        for name, told in (("a", True), ("abcdefgh", True), ("z" * 8, True), ("abcdefghi", False), ("", False),
                           ("A", False), ("aB", False), ("a1", False), ("1", False), ("a-b", False), ("a b", False),
                           ("a\n", False), (chr(233), False), ("a_", False), (1, False), (None, False),
                           (("a",), False), (["a"], False), (b"a", False)):
            self.heads(((name, ""),), told)

    def test_shape_of_heads(self):
        for thing in (("to", "x"), (("to",),), (("to", "x", "y"),), ((),), (["to", "x"],), [("to", "x")], [], None, "",
                      "to", 0, ("to",), ("ab",)):
            self.heads(thing, False)

    def test_signs(self):
        for sign, told in ((0, True), (10, True), (37, True), (65535, True), (65536, False), (-1, False),
                           (True, False), (False, False), (None, False), ("a", False), ((), False), ((1,), False),
                           (10 ** 30, False)):
            self.body(("words", (sign,)), told)
            self.body(("words", (0, 1, sign, 2)), told)

    def test_how_many_signs(self):
        for many, told in ((0, True), (1, True), (300, True), (301, False)):
            self.body(("words", (0,) * many), told)

    def test_shape_of_words(self):
        for thing in ("", "abc", None, 5, True, [], [1, 2], ([],), ((1,),)):
            self.body(("words", thing), False)
        for thing in (("words",), ("words", (), ()), ["words", ()], ((), "words"), ("Words", ()), ("word", ()),
                      (" words", ()), ("", ()), (None, ()), (("words",), ()), "words", ("packed", ())):
            self.body(thing, False)

    def test_how_many_parts(self):
        for many, told in ((0, False), (1, True), (4, True), (5, False)):
            self.body(("parts", (part("x"),) * many), told)

    def test_shape_of_parts(self):
        good = part("x")
        for thing in ([good], (list(good),), (good + (),) + ((),), (good + ((),),), (good[:1],), good, (words("x"),), None,
                      "parts", (None,), ((None, words("x")),), (((), None),), (([], words("x")),)):
            self.body(("parts", thing), False)
        for thing in (["parts", (good,)], ("parts",), ("parts", (good,), ()), ("part", (good,)), ("PARTS", (good,))):
            self.body(thing, False)

    def test_a_wrong_part_anywhere(self):
        for at in range(4):
            inner = [part("x")] * 4
            inner[at] = ((), ("words", (True,)))
            self.body(("parts", tuple(inner)), False)

    def test_how_deep(self):
        two = parts(part("x"))
        three = parts(((), two))
        four = parts(((), three))
        for thing, told in ((two, True), (three, True), (four, False), (parts(part("x"), ((), three)), False),
                            (parts(((), two), ((), two)), True), (parts(((), four)), False)):
            self.body(thing, told)
        self.body(parts(((), parts(((), parts())))), False)

    def test_lists_where_tuples_are_asked(self):
        for letter in letters(30):
            self.assertIs(is_letter(listed(letter)), False)
            self.assertIs(is_letter(list(letter)), False)
            self.assertIs(is_letter((list(letter[0]), letter[1])), False)
            self.assertIs(is_letter((letter[0], list(letter[1]))), False)
            self.assertIs(is_letter((letter[0], (letter[1][0], list(letter[1][1])))), False)

    def test_shape_of_a_letter(self):
        good = part("x")
        for thing in (good[:1], good + ((),), ((), good[1], ()), (good[1], ()), (good[1], good[1]), ((), ())):
            self.assertIs(is_letter(thing), False)

    def test_things_of_any_kind(self):
        for thing in odd_things():
            self.assertIs(is_body(thing), False, repr(thing)[:80])
            self.assertIs(is_letter(thing), False, repr(thing)[:80])
            self.assertIs(is_letter(((), thing)), False)
            self.assertIs(is_letter((thing, words("x"))), thing == () and isinstance(thing, tuple))

    def test_asking_changes_nothing(self):
        for thing in odd_things() + letters(5):
            ahead = kinds(thing)
            self.assertIs(is_letter(thing), is_letter(thing))
            self.assertIs(is_body(thing), is_body(thing))
            self.assertEqual(kinds(thing), ahead)


if __name__ == "__main__":
    unittest.main()
