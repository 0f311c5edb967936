"""Point [6], as far as plans.py has it: is_address, is_plan."""

import unittest

from letterhall.codes import WAYS
from letterhall.plans import is_address, is_plan
from tests.samples import ELM, OAK, PLAN, kinds, listed, odd_things

FIVE = ("ann", "bob", "cid", "dan", "eve")


def house(name="elm", people=("ann",), lists=(), ways=WAYS, most=500):
    return (name, people, lists, ways, most)


class Address(unittest.TestCase):

    def test_pairs_of_names(self):
        for thing, told in ((("ann", "elm"), True), (("a", "abcdefgh"), True), (("post", "elm"), True),
                            (("a", "abcdefghi"), False), (("abcdefghi", "a"), False), (("", "elm"), False),
                            (("ann", ""), False), (("Ann", "elm"), False), (("ann", "elm2"), False),
                            (["ann", "elm"], False), (("ann",), False), (("ann", "elm", "oak"), False), ("ab", False),
                            (("ann", 1), False), ((None, "elm"), False), ((("ann",), "elm"), False)):
            self.assertIs(is_address(thing), told, thing)

    def test_things_of_any_kind(self):
        for thing in odd_things():
            self.assertIs(is_address(thing), False, repr(thing)[:80])
            self.assertIs(is_address((thing, "elm")), thing == "words" or thing == "ab")


class Plan(unittest.TestCase):

    def plan(self, thing, told):
        self.assertIs(is_plan(thing), told, repr(thing)[:300])

    def house(self, told, **given):
        self.plan(((house(**given),), ()), told)
        self.plan(((OAK, house(**given)), (("oak", "elm", 1),)), told)

    def links(self, told, *links):
        self.plan((tuple(house(name) for name in ("elm", "oak", "ash", "fir", "yew")), links), told)

    def test_ordinary(self):
        self.plan(PLAN, True)
        self.house(True)
        self.plan(((ELM,), ()), True)

    def test_how_many_houses(self):
        for many in range(0, 7):
            houses = tuple(house("elm" + "x" * k) for k in range(many))
            self.plan((houses, ()), 1 <= many <= 5)

    def test_house_names(self):
        for name, told in (("a", True), ("abcdefgh", True), ("post", True), ("ann", True), ("abcdefghi", False), ("", False),
                           ("Elm", False), ("elm1", False), (1, False), (None, False), (("elm",), False)):
            self.plan(((house(name),), ()), told)
        self.plan(((house("elm"), house("elm")), ()), False)
        self.plan(((house("elm"), house("oak"), house("elm", most=600)), ()), False)

    def test_people(self):
        for people, told in (((), False), (("ann",), True), (FIVE[:4], True), (FIVE, False), (("ann", "ann"), False),
                             (("ann", "bob", "ann"), False), (["ann"], False), ("ann", False), (("Ann",), False),
                             (("post",), False), (("ann", "post"), False), (("posts",), True), (("ann", None), False),
                             (("ann", 1), False), ((("ann",),), False), ((["ann"],), False), (None, False), (("elm",), True)):
            self.house(told, people=people)

    def test_lists(self):
        to = (("ann", "elm"),)
        for lists, told in (((), True), ((("all", to),), True), (tuple((name, to) for name in ("one", "two", "six")), True),
                            (tuple((name, to) for name in ("one", "two", "six", "ten")), False),
                            ((("all", to), ("all", to)), False), ((("ann", to),), False), ((("post", to),), False),
                            ((("All", to),), False), ((("all", to, ()),), False), ((("all",),), False),
                            ((["all", to],), False), ([("all", to)], False), (("all", to), False), (None, False),
                            (((("all",), to),), False), (((None, to),), False)):
            self.house(told, lists=lists)

    def test_addresses_of_a_list(self):
        for addresses, told in (((), False), ((("ann", "elm"),), True),
                                (tuple((name, "elm") for name in FIVE[:4]), True),
                                (tuple((name, "elm") for name in FIVE), False),
                                ((("no", "where"), ("post", "elm"), ("all", "elm")), True),
                                ((("ann", "elm"), ("ann", "elm")), False), ((("ann", "elm"), ("ann", "oak")), True),
                                ((("ann", "elm"), ("elm", "ann")), True), ([("ann", "elm")], False),
                                ((["ann", "elm"],), False), (("ann", "elm"), False), ((("ann",),), False),
                                ((("ann", "Elm"),), False), ((None,), False), (None, False)):
            self.house(told, lists=(("all", addresses),))

    def test_alike_names_in_two_houses(self):
        lists = (("all", (("ann", "elm"),)),)
        self.plan(((house("elm", ("ann",), lists), house("oak", ("ann",), lists)), ()), True)
        self.plan(((house("elm", ("all",)), house("oak", ("ann",), lists)), ()), True)

    def test_ways(self):
        for ways in (("plain",), ("marked",), ("packed",), ("plain", "marked"), ("plain", "packed"), ("marked", "packed"), WAYS):
            self.house(True, ways=ways)
        for ways in ((), ("marked", "plain"), ("packed", "plain"), ("packed", "marked", "plain"), ("plain", "plain"),
                     ("plain", "marked", "marked"), WAYS + ("packed",), ["plain"], "plain", ("other",), ("plain", "other"),
                     (None,), (0,), (["plain"],), None, ("Plain",)):
            self.house(False, ways=ways)

    def test_most(self):
        for most, told in ((399, False), (400, True), (401, True), (9000, True), (9001, False), (True, False), (False, False),
                           (None, False), ("500", False), (-500, False), ((500,), False)):
            self.house(told, most=most)

    def test_shape_of_a_house(self):
        for thing in (house()[:4], house() + ((),), list(house()), (), None, "house", house()[::-1], (1, 2, 3, 4, 5)):
            self.plan(((thing,), ()), False)
            self.plan(((OAK, thing), ()), False)

    def test_links(self):
        for delay, told in ((0, False), (1, True), (4, True), (5, False), (-1, False), (True, False), (None, False), ("1", False)):
            self.links(told, ("elm", "oak", delay))
            self.links(told, ("ash", "fir", 2), ("elm", "oak", delay))
        self.links(True)
        self.links(False, ("elm", "elm", 1))
        self.links(False, ("elm", "box", 1))
        self.links(False, ("box", "elm", 1))
        self.links(False, ("box", "bog", 1))
        self.links(False, ("elm", "oak", 1), ("elm", "oak", 1))
        self.links(False, ("elm", "oak", 1), ("elm", "oak", 2))
        self.links(False, ("elm", "oak", 1), ("oak", "elm", 1))
        self.links(False, ("elm", "oak", 1), ("ash", "fir", 1), ("oak", "elm", 2))
        self.links(True, ("oak", "elm", 1), ("elm", "ash", 1), ("ash", "oak", 1))

    def test_how_many_links(self):
        names = ("elm", "oak", "ash", "fir", "yew")
        pairs = [(one, other, 1) for at, one in enumerate(names) for other in names[at + 1:]]
        for many in range(len(pairs) + 1):
            self.links(many <= 8, *pairs[:many])

    def test_shape_of_links(self):
        for link in (("elm", "oak"), ("elm", "oak", 1, 1), ["elm", "oak", 1], "elm", None, (), (("elm",), "oak", 1),
                     (["elm"], "oak", 1), ("elm", None, 1), (1, 1, 1)):
            self.links(False, link)
        for links in ([], [("elm", "oak", 2)], None, "", ("elm", "oak", 2)):
            self.plan((PLAN[0], links), False)

    def test_lists_where_tuples_are_asked(self):
        self.plan(listed(PLAN), False)
        self.plan(list(PLAN), False)
        self.plan((list(PLAN[0]), PLAN[1]), False)
        self.plan((PLAN[0], list(PLAN[1])), False)

    def test_shape_of_a_plan(self):
        for thing in (PLAN[:1], PLAN + ((),), PLAN[0], PLAN[::-1], ((), ()), (ELM, ()), ()):
            self.plan(thing, False)

    def test_things_of_any_kind(self):
        for thing in odd_things():
            ahead = kinds(thing)
            self.plan(thing, False)
            self.plan((thing, ()), False)
            self.plan((PLAN[0], thing), isinstance(thing, tuple) and thing == ())
            for at in range(5):
                changed = list(ELM)
                changed[at] = thing
                self.assertIn(is_plan(((tuple(changed),), ())), (True, False))
                if not isinstance(thing, (tuple, str)):
                    self.plan(((tuple(changed),), ()), False)
            self.assertEqual(kinds(thing), ahead)


if __name__ == "__main__":
    unittest.main()
