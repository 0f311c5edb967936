"""Point [7]: words_of, holds."""

import random
import re
import unittest

from letterhall.rules import holds, words_of
from tests.samples import kinds, letters, listed, part, parts, signs, words, writings_of


def words_by_search(letter):
    """The words of a letter, found by other means."""
    abouts = [value for name, value in letter[0] if name == "about"][:1]
    texts = abouts + ["".join(chr(sign) for sign in writing) for writing in writings_of(letter[1])]
    found = {word.lower()[:12] for text in texts for word in re.findall("[A-Za-z0-9]+", text)}
    return sorted(found)


class Words(unittest.TestCase):

    def words(self, letter, told):
        self.assertEqual(kinds(words_of(letter)), kinds(told))
        self.assertEqual(kinds(words_of(listed(letter))), kinds(told))

    def test_rising_each_once_great_as_small(self):
        self.words(part("The tea AND the Tea 5 and 12 b2B"), ["12", "5", "and", "b2b", "tea", "the"])
        self.words(part(""), [])
        self.words(part(" .,- \n ="), [])

    def test_the_first_head_about_alone(self):
        self.words(part("x", ("about", "Tea")), ["tea", "x"])
        self.words(part("x", ("to", "ann@elm"), ("about", "Tea"), ("about", "Hall"), ("from", "bob@elm")), ["tea", "x"])
        self.words(part("x", ("about", ""), ("about", "Hall")), ["x"])
        self.words(part("x", ("abouts", "Tea")), ["x"])

    def test_each_writing_however_deep_and_no_heads_of_parts(self):
        inner = parts(part("deep", ("about", "no")), ((("about", "nor"),), parts(part("low"))))
        self.words(((("about", "top"),), parts(part("one", ("about", "never")), ((), inner))), ["deep", "low", "one", "top"])
        self.words(((), parts(part("one", ("about", "never")))), ["one"])

    def test_no_word_over_two_writings(self):
        self.words(((("about", "be"),), parts(part("gin"), part("ning"))), ["be", "gin", "ning"])
        self.words(((("about", "be"),), words("gin")), ["be", "gin"])

    def test_the_first_twelve(self):
        for many in (1, 11, 12, 13, 20, 60):
            text = "abcdefghijklmnopqrst"[:many] if many <= 20 else "z" * many
            self.words(part(text), [text[:12]])
            self.words(part("x", ("about", text)), sorted({text[:12], "x"}))
        self.words(part("abcdefghijkl1 ABCDEFGHIJKL2"), ["abcdefghijkl"])

    def test_signs_just_beside(self):
        for sign in "/:@[`{":
            self.words(part("a" + sign + "b"), ["a", "b"])
            self.words(part("x", ("about", "a" + sign + "b")), ["a", "b", "x"])
        for sign in "09AZaz":
            self.words(part("q" + sign + "q"), ["q" + sign.lower() + "q"])
        for sign in (0, 9, 10, 13, 31, 32, 37, 127, 128, 178, 223, 255, 304, 0x212A, 0x660, 0xFF21, 65535, 65 + 256):
            self.words(((), ("words", (97, sign, 98))), ["a", "b"])
            self.words(((), ("words", (sign,))), [])

    def test_line_ends_part(self):
        self.words(part("one\ntwo"), ["one", "two"])

    def test_many_letters(self):
        chance = random.Random(3)
        for letter in letters(120, seed=4):
            self.words(letter, words_by_search(letter))
        for turn in range(100):
            writing = tuple(chance.choice((48, 57, 58, 64, 65, 90, 91, 96, 97, 122, 123, 32, 10, 300)) for k in range(60))
            letter = ((("about", "".join(chance.choice("aZ 9-") for k in range(40))),), ("words", writing))
            self.words(letter, words_by_search(letter))


LETTER = ((("from", "ann@elm"), ("to", "bob@elm cid@oak"), ("about", "Tea  at 5"), ("from", "eve@ash"), ("to", "dan@oak"),
           ("about", "other")), parts(part("one two", ("from", "dan@oak"), ("auto", "yes")), part("", ("to", "eve@ash")), part("Three")))


class Holds(unittest.TestCase):

    def holds(self, test, told, letter=LETTER):
        self.assertIs(holds(test, letter), told, test)
        self.assertIs(holds(listed(test), listed(letter)), told, test)
        self.assertIs(holds(("not", test), letter), not told, test)
        self.assertIs(holds(letter=letter, test=("not", ("not", test))), told, test)

    def test_from(self):
        self.holds(("from", ("ann", "elm")), True)
        for address in (("eve", "ash"), ("dan", "oak"), ("ann", "el"), ("nn", "elm"), ("ann", "elms"), ("bob", "elm")):
            self.holds(("from", address), False)
        self.holds(("from", ("ann", "elm")), False, part("", ("from", "ann@elm bob@elm")))
        self.holds(("from", ("ann", "elm")), False, part("", ("from", " ann@elm")))

    def test_to(self):
        for address, told in ((("bob", "elm"), True), (("cid", "oak"), True), (("dan", "oak"), False), (("eve", "ash"), False),
                              (("id", "oak"), False), (("bob", "el"), False), (("ann", "elm"), False)):
            self.holds(("to", address), told)
        self.holds(("to", ("bob", "elm")), True, part("", ("to", "  bob@elm  ")))
        self.holds(("to", ("bob", "elm")), False, part("", ("to", "bob@elm,cid@oak")))
        self.holds(("to", ("bob", "elm")), False, part("", ("to", "")))

    def test_word(self):
        for word, told in (("tea", True), ("at", True), ("5", True), ("two", True), ("three", True), ("te", False), ("other", False),
                           ("ann", False), ("dan", False), ("yes", False)):
            self.holds(("word", word), told)
        self.holds(("word", "abcdefghijkl"), True, part("abcdefghijklm"))
        self.holds(("word", "abcdefghijk"), False, part("abcdefghijklm"))

    def test_about_sign_for_sign(self):
        for text, told in (("Tea", True), ("tea", False), ("Tea  at", True), ("Tea at", False), (" ", True), ("  ", True), ("   ", False),
                           ("Tea  at 5", True), ("Tea  at 5 ", False), ("other", False), ("a", True)):
            self.holds(("about", text), told)

    def test_longer_at_the_very_number(self):
        for number, told in ((0, True), (11, True), (12, False), (13, False), (9999, False)):
            self.holds(("longer", number), told)
        self.holds(("longer", 0), False, part(""))
        self.holds(("longer", 0), False, part("", ("about", "x" * 40)))
        self.holds(("longer", 299), True, part("x" * 300))
        self.holds(("longer", 300), False, part("x" * 300))

    def test_auto(self):
        self.holds(("auto",), False)
        self.holds(("auto",), True, part("", ("to", "x"), ("auto", "yes")))
        self.holds(("auto",), True, part("", ("auto", "")))
        self.holds(("auto",), True, part("", ("auto", "no"), ("auto", "no")))

    def test_a_head_that_is_wanting(self):
        bare = ((), parts(part("tea", ("from", "ann@elm"), ("to", "ann@elm"), ("about", "tea"))))
        for test in (("from", ("ann", "elm")), ("to", ("ann", "elm")), ("about", "tea"), ("auto",)):
            self.holds(test, False, bare)
        self.holds(("word", "tea"), True, bare)

    def test_both_and_any(self):
        yes, no = ("word", "tea"), ("auto",)
        for one in (yes, no):
            for other in (yes, no):
                self.holds(("both", one, other), one == other == yes)
                self.holds(("any", one, other), yes in (one, other))
        self.holds(("any", ("both", yes, no), ("not", ("both", no, yes))), True)
        self.holds(("both", ("any", no, yes), ("not", ("any", no, no))), True)

    def test_nothing_is_changed(self):
        given = listed(LETTER)
        test = listed(("both", ("word", "tea"), ("from", ("ann", "elm"))))
        ahead = kinds((given, test))
        words_of(given)
        holds(test, given)
        self.assertEqual(kinds((given, test)), ahead)
        first, second = words_of(given), words_of(given)
        self.assertIsNot(first, second)
        first.append("more")
        self.assertEqual(words_of(given), second)

    def test_signs_beyond_words(self):
        self.assertEqual(words_of(((), ("words", signs("a") + (233,) + signs("b")))), ["a", "b"])


if __name__ == "__main__":
    unittest.main()
