"""Points [7] and [14]: is_test, is_rules, is_query."""

import unittest

from letterhall.queries import is_query
from letterhall.rules import is_rules, is_test
from tests.samples import kinds, listed, odd_things

ANN = ("ann", "elm")
AUTO = ("auto",)

# Tests, or not, that have no other one in them.
LEAVES = (
    (AUTO, True), (("auto", 1), False), (("auto", ()), False), (("auto", AUTO), False), (("auto", AUTO, AUTO), False),
    (["auto"], False), ("auto", False),
    (("from", ANN), True), (("to", ANN), True), (("from", ("zed", "nowhere")), True), (("from", list(ANN)), False),
    (("from", "ann@elm"), False), (("from",), False), (("from", ANN, ANN), False), (("from", "ann", "elm"), False),
    (["from", ANN], False), (("to", ("Ann", "elm")), False), (("to", ("abcdefghi", "elm")), False), (("to", None), False),
    (("from", ("abcdefgh", "abcdefgh")), True), (("to",), False), (("to", ANN, "x"), False),
    (("word", "a"), True), (("word", "z9"), True), (("word", "0"), True), (("word", "a" * 12), True),
    (("word", "a" * 13), False), (("word", ""), False), (("word", "A"), False), (("word", "a b"), False),
    (("word", "a-b"), False), (("word", "a\n"), False), (("word", 7), False), (("word", None), False), (("word",), False),
    (("word", ("a",)), False), (("word", "a", "b"), False), (("word", b"a"), False), (("word", chr(178)), False),
    (("about", "x"), True), (("about", " "), True), (("about", "Tea & ~=!"), True), (("about", "x" * 40), True),
    (("about", "x" * 41), False), (("about", ""), False), (("about", "a\nb"), False), (("about", "5%"), False),
    (("about", None), False), (("about", 1), False), (("about",), False), (("about", "x", "y"), False),
    (("longer", 0), True), (("longer", 9999), True), (("longer", 10000), False), (("longer", -1), False),
    (("longer", True), False), (("longer", False), False), (("longer", None), False), (("longer", "1"), False),
    (("longer",), False), (("longer", 1, 2), False),
)
LEAF_QUERIES = (
    (("marked", "a"), True), (("marked", "abcdefgh"), True), (("marked", "abcdefghi"), False), (("marked", ""), False),
    (("marked", "A"), False), (("marked", None), False), (("marked",), False), (("marked", "a", "b"), False),
    (("box", "in"), True), (("box", "abcdefgh"), True), (("box", "abcdefghi"), False), (("box", ""), False),
    (("box", "a1"), False), (("box", ANN), False), (("box",), False), (("box", "in", "in"), False), (["box", "in"], False),
    (("since", 0), True), (("since", 400), True), (("since", 401), False), (("since", -1), False), (("since", True), False),
    (("since", None), False), (("since",), False), (("since", 1, 2), False), (("since", "1"), False),
)
NONE_OF_BOTH = ((), ("not",), ("both",), ("any",), ("both", AUTO), ("any", AUTO), ("not", AUTO, AUTO),
                ("both", AUTO, AUTO, AUTO), ("any", AUTO, AUTO, AUTO), ("not", ()), ("not", None), ("both", AUTO, None),
                ("any", None, AUTO), ("nor", AUTO), ("NOT", AUTO), ("not", list(AUTO)), ["not", AUTO], ("both", AUTO, ["auto"]),
                (AUTO,), (("auto",),), ("stop",), ("drop",), ("file", "in"), (["not"], AUTO), (None, AUTO), (True,))


def deeper(test, many):
    """A test with so many more around it, on the side that is looked at last."""
    for k in range(many):
        test = (("not", test), ("both", AUTO, test), ("any", AUTO, test))[k % 3]
    return test


class Tests(unittest.TestCase):

    def test_leaves(self):
        for thing, told in LEAVES:
            self.assertIs(is_test(thing), told, thing)
            self.assertIs(is_query(thing), told, thing)
            for around in (("not", thing), ("both", thing, AUTO), ("both", AUTO, thing), ("any", thing, AUTO), ("any", AUTO, thing)):
                self.assertIs(is_test(around), told, around)
                self.assertIs(is_query(around), told, around)

    def test_leaves_of_queries_alone(self):
        for thing, told in LEAF_QUERIES:
            for many in range(4):
                self.assertIs(is_query(deeper(thing, many)), told, thing)
                self.assertIs(is_test(deeper(thing, many)), False, thing)
            self.assertIs(is_query(("both", thing, AUTO)), told)
            self.assertIs(is_test(("both", thing, AUTO)), False)
            self.assertIs(is_query(("any", thing, ("not", AUTO))), told)
            self.assertIs(is_query(deeper(thing, 4)), False, thing)

    def test_how_deep(self):
        for leaf in (AUTO, ("from", ANN), ("longer", 0)):
            for many in range(7):
                for thing in (deeper(leaf, many), listed_last(leaf, many, "both"), listed_last(leaf, many, "any")):
                    self.assertIs(is_test(thing), many <= 3, thing)
                    self.assertIs(is_query(thing), many <= 3, thing)

    def test_full_width(self):
        wide = ("word", "a")
        for k in range(3):
            wide = ("both" if k % 2 else "any", wide, wide)
        self.assertIs(is_test(wide), True)
        self.assertIs(is_query(wide), True)
        self.assertIs(is_test(("not", wide)), False)
        self.assertIs(is_query(("not", wide)), False)

    def test_things_that_are_neither(self):
        for thing in NONE_OF_BOTH:
            self.assertIs(is_test(thing), False, thing)
            self.assertIs(is_query(thing), False, thing)

    def test_things_of_any_kind(self):
        for thing in odd_things():
            ahead = kinds(thing)
            for around in (thing, ("not", thing), ("from", thing), ("longer", thing), ("both", thing, AUTO), (thing, AUTO), (thing,),
                           ("since", thing), ("box", (thing,))):
                if kinds(around) not in (kinds(("longer", 0)), kinds(("longer", 1)), kinds(("since", 0)), kinds(("since", 1))):
                    self.assertIs(is_test(around), False, repr(around)[:80])
                    self.assertIs(is_query(around), False, repr(around)[:80])
            self.assertIs(is_rules((thing,)), False)
            self.assertEqual(kinds(thing), ahead)


def listed_last(leaf, many, word):
    """A test with so many more around it, on the side that is looked at first."""
    for k in range(many):
        leaf = (word, leaf, AUTO)
    return leaf


class Rules(unittest.TestCase):

    def deeds(self, told, *deeds):
        self.assertIs(is_rules(((AUTO, deeds),)), told, deeds)
        self.assertIs(is_rules(((AUTO, (("stop",),)), (AUTO, deeds))), told, deeds)

    def test_how_many(self):
        rule = (AUTO, (("drop",),))
        for many in range(7):
            self.assertIs(is_rules((rule,) * many), many <= 4)
            self.deeds(1 <= many <= 4, *[("drop",)] * many)

    def test_deeds(self):
        for deed, told in ((("file", "in"), True), (("file", "abcdefgh"), True), (("file", "abcdefghi"), False), (("file", ""), False),
                           (("file", "In"), False), (("file",), False), (("file", "a", "b"), False), (("file", 1), False),
                           (("mark", "hot"), True), (("mark", "abcdefghi"), False), (("mark", None), False), (("mark",), False),
                           (("on", ANN), True), (("on", ("zed", "nowhere")), True), (("on", list(ANN)), False), (("on", "ann"), False),
                           (("on", "ann", "elm"), False), (("on",), False), (("answer", "x"), True), (("answer", "x" * 40), True),
                           (("answer", "x" * 41), False), (("answer", ""), False), (("answer", "5%"), False), (("answer", "a\nb"), False),
                           (("answer", None), False), (("answer", 5), False), (("answer",), False), (("answer", "x", "y"), False),
                           (("drop",), True), (("stop",), True), (("drop", 1), False), (("stop", "x"), False), (("drop", ()), False),
                           (["drop"], False), ("drop", False), ((), False), (None, False), (("auto",), False), (("see",), False),
                           (("DROP",), False), ((["file"], "in"), False)):
            self.deeds(told, deed)
            self.deeds(told, ("stop",), deed)

    def test_shapes(self):
        good = (AUTO, (("stop",),))
        for thing in (good, [good], (list(good),), ((AUTO, [("stop",)]),), ((AUTO,),), ((AUTO, (("stop",),), 1),), ((AUTO, ("stop",)),),
                      ((("stop",), AUTO),), ((None, (("stop",),)),), ((AUTO, None),), ((AUTO, "stop"),), None, "", 0, True, ("",)):
            self.assertIs(is_rules(thing), False, thing)
        self.assertIs(is_rules(()), True)
        self.assertIs(is_rules([]), False)
        self.assertIs(is_rules(listed((good,))), False)

    def test_tests_in_rules(self):
        deeds = (("stop",),)
        for thing, told in LEAVES:
            self.assertIs(is_rules(((thing, deeds),)), told, thing)
            self.assertIs(is_rules(((AUTO, deeds), (thing, deeds))), told, thing)
        for thing, told in LEAF_QUERIES:
            self.assertIs(is_rules(((thing, deeds),)), False, thing)
        self.assertIs(is_rules(((deeper(AUTO, 3), deeds),)), True)
        self.assertIs(is_rules(((deeper(AUTO, 4), deeds),)), False)

    def test_things_of_any_kind(self):
        for thing in odd_things():
            if thing != ():
                self.assertIs(is_rules(thing), False, repr(thing)[:80])
            self.deeds(False, thing)
            self.assertIs(is_rules(((thing, (("stop",),)),)), False)
            self.assertIs(is_rules(((AUTO, thing),)), False)


if __name__ == "__main__":
    unittest.main()
