"""Point [6], as far as routes.py has it: next_house, reached."""

import itertools
import random
import unittest

from letterhall.routes import next_house, reached
from tests.halls import house
from tests.samples import kinds, listed

NAMES = ("elm", "oak", "ash", "fir", "yew")


def plan_of(links, names=NAMES):
    return (tuple(house(name, "ann") for name in names), tuple(links))


def by_all_ways(plan, one, goal):
    """The next house by looking at each way without a ring."""
    names = [row[0] for row in plan[0]]
    delays = {frozenset(link[:2]): link[2] for link in plan[1]}
    best = []
    for many in range(len(names) - 1):
        for between in itertools.permutations([name for name in names if name not in (one, goal)], many):
            way = (one, *between, goal)
            hops = [frozenset(pair) for pair in zip(way, way[1:])]
            if all(hop in delays for hop in hops):
                best.append((sum(delays[hop] for hop in hops), names.index(way[1]), way[1]))
    return min(best)[2] if best else None


class NextHouse(unittest.TestCase):

    def test_one_link_either_way_about(self):
        for links in ((("elm", "oak", 2),), (("oak", "elm", 2),)):
            self.assertEqual(next_house(plan_of(links), "elm", "oak"), "oak")
            self.assertEqual(next_house(plan_of(links), "oak", "elm"), "elm")

    def test_three_short_links_beside_a_long_one(self):
        short = (("elm", "oak", 1), ("ash", "oak", 1), ("fir", "ash", 1))
        self.assertEqual(next_house(plan_of(short + (("elm", "fir", 4),)), "elm", "fir"), "oak")
        self.assertEqual(next_house(plan_of(short + (("elm", "fir", 4),)), "fir", "elm"), "ash")
        self.assertEqual(next_house(plan_of(short + (("elm", "fir", 2),)), "elm", "fir"), "fir")

    def test_of_several_the_first_in_the_order_of_houses(self):
        # All sums are 3: straight, by oak, by ash.
        links = (("elm", "fir", 3), ("elm", "ash", 1), ("ash", "fir", 2), ("elm", "oak", 2), ("oak", "fir", 1))
        for order in itertools.permutations(links):
            self.assertEqual(next_house(plan_of(order), "elm", "fir"), "oak")
            self.assertEqual(next_house(plan_of([(other, one, delay) for one, other, delay in order]), "elm", "fir"), "oak")
        for names, told in ((("fir", "elm", "ash", "oak"), "fir"), (("elm", "ash", "fir", "oak"), "ash"),
                            (("ash", "fir", "elm", "oak"), "ash"), (("elm", "oak", "ash", "fir"), "oak")):
            self.assertEqual(next_house(plan_of(links, names), "elm", "fir"), told)

    def test_no_way_and_no_such_goal(self):
        plan = plan_of((("elm", "oak", 1), ("ash", "fir", 1)))
        self.assertIsNone(next_house(plan, "elm", "ash"))
        self.assertIsNone(next_house(plan, "yew", "elm"))
        self.assertIsNone(next_house(plan, "elm", "yew"))
        self.assertIsNone(next_house(plan, "elm", "nowhere"))
        self.assertIsNone(next_house(plan_of((), ("elm",)), "elm", "oak"))

    def test_all_ways_of_many_plans(self):
        chance = random.Random(5)
        pairs = list(itertools.combinations(NAMES, 2))
        for turn in range(150):
            links = [(*chance.sample(pair, 2), chance.randint(1, 4)) for pair in chance.sample(pairs, chance.randint(0, 8))]
            plan = plan_of(links, chance.sample(NAMES, 5))
            for one, goal in itertools.permutations(NAMES, 2):
                self.assertEqual(next_house(plan, one, goal), by_all_ways(plan, one, goal))

    def test_lists_for_tuples(self):
        plan = plan_of((("elm", "oak", 2),))
        self.assertEqual(next_house(listed(plan), "elm", "oak"), "oak")
        self.assertEqual(next_house(goal="oak", house="elm", plan=plan), "oak")


def lists_plan(elm=(), oak=()):
    return ((house("elm", "ann bob", elm), house("oak", "cid dan", oak)), ())


ANN, BOB, CID, DAN = ("ann", "elm"), ("bob", "elm"), ("cid", "oak"), ("dan", "oak")
A, B, C = ("a", "elm"), ("b", "elm"), ("c", "elm")
X, Y, Z = ("x", "oak"), ("y", "oak"), ("z", "oak")
NONE, FAR = ("zed", "elm"), ("ann", "fir")


class Reached(unittest.TestCase):

    def reach(self, plan, address, people=(), rings=(), gone=()):
        told = reached(plan, address)
        self.assertEqual(kinds(told), kinds((people, rings, gone)))
        self.assertEqual(kinds(reached(listed(plan), list(address))), kinds(told))
        self.assertEqual(kinds(reached(address=address, plan=plan)), kinds(told))

    def test_person_nobody_no_house(self):
        plan = lists_plan()
        self.reach(plan, ANN, people=(ANN,))
        self.reach(plan, NONE, gone=(NONE,))
        self.reach(plan, FAR, gone=(FAR,))
        self.reach(plan, ("post", "elm"), gone=(("post", "elm"),))
        self.reach(plan, ("ann", "oak"), gone=(("ann", "oak"),))

    def test_one_list_in_its_order(self):
        plan = lists_plan(elm=(("a", (CID, NONE, ANN, FAR)),))
        self.reach(plan, A, people=(CID, ANN), gone=(NONE, FAR))
        self.reach(plan, ANN, people=(ANN,))

    def test_each_with_all_behind_it_ahead_of_the_next(self):
        plan = lists_plan(elm=(("a", (X, BOB)), ("b", (FAR, A, ANN))), oak=(("x", (DAN, Y, CID)), ("y", (NONE, CID, BOB))))
        self.reach(plan, A, people=(DAN, CID, BOB), gone=(NONE,))
        self.reach(plan, B, people=(DAN, CID, BOB, ANN), gone=(FAR, NONE))
        self.reach(plan, Y, people=(CID, BOB), gone=(NONE,))

    def test_each_once(self):
        plan = lists_plan(elm=(("a", (ANN, NONE, B)), ("b", (NONE, ANN, BOB))))
        self.reach(plan, A, people=(ANN, BOB), gone=(NONE,))

    def test_ring_of_one(self):
        plan = lists_plan(elm=(("a", (A, ANN)), ("b", (A, BOB))))
        self.reach(plan, A, people=(ANN,), rings=(A,))
        # b leads to a ring, but isn't in one.
        self.reach(plan, B, people=(ANN, BOB), rings=(A,))

    def test_ring_of_several_in_the_plans_order(self):
        plan = lists_plan(elm=(("c", (X,)), ("a", (ANN, Y)), ("b", (BOB,))), oak=(("y", (C, DAN)), ("x", (B, A))))
        for address in (X, C):
            self.reach(plan, address, people=(BOB, ANN, DAN), rings=(C, A, Y, X))
        self.reach(plan, A, people=(ANN, BOB, DAN), rings=(C, A, Y, X))
        self.reach(plan, B, people=(BOB,))

    def test_two_rings_and_a_ring_that_is_not_come_to(self):
        plan = lists_plan(elm=(("a", (B, X)), ("b", (A,)), ("c", (C,))), oak=(("x", (Y, ANN)), ("y", (X,)), ("z", (C, A))))
        self.reach(plan, A, people=(ANN,), rings=(A, B, X, Y))
        self.reach(plan, X, people=(ANN,), rings=(X, Y))
        self.reach(plan, Z, people=(ANN,), rings=(A, B, C, X, Y))

    def test_links_are_no_matter(self):
        plan = lists_plan(elm=(("a", (CID,)),))
        self.assertEqual(plan[1], ())
        self.reach(plan, A, people=(CID,))


if __name__ == "__main__":
    unittest.main()
