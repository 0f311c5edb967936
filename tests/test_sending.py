"""Points [9] and [10]: send, and what becomes of a copy at a house to which it comes."""

import unittest

from letterhall.errors import BadPlan
from letterhall.hall import Hall
from letterhall.letters import letter_text, read_letter
from tests.halls import ANN, BOB, CID, DAN, EVE, head, house, on_all, one_house, refused, send, state, states, three
from tests.samples import PLAN, listed, part, parts, signs, words

ODD = ("words", (233,))


def brought(*pieces, copies=()):
    return ("brought", tuple(pieces), tuple(copies))


class Begin(unittest.TestCase):

    def test_a_new_hall(self):
        hall = Hall(plan=PLAN)
        self.assertEqual((hall.now(), hall.letters(), len(hall), hall.log(), hall.calls()), (0, 0, 0, [], []))
        self.assertTrue(hall.is_awake("elm") and hall.is_awake("oak") and hall.is_tied("elm", "oak"))
        self.assertEqual(hall.rules_of(ANN), ())
        self.assertEqual(hall.boxes(ANN), [(ANN, "in")])

    def test_bad_plans(self):
        for thing in (None, (), listed(PLAN), (PLAN[0], list(PLAN[1])), (PLAN[0], ()) + ((),), ((), ()), 7, "plan", (PLAN[0], (("elm", "elm", 1),))):
            with self.assertRaises(BadPlan) as caught:
                Hall(thing)
            self.assertIs(caught.exception.plan, thing)


class Heads(unittest.TestCase):

    def test_heads_in_order(self):
        hall = three()
        self.assertEqual(hall.send(ANN, (BOB, CID, ("zed", "nowhere")), "Tea", words("x")), 0)
        self.assertEqual(hall.letter(0), ((("from", "ann@elm"), ("to", "bob@elm cid@oak zed@nowhere"), ("about", "Tea"), ("number", "0")),
                                          words("x")))

    def test_line(self):
        hall = three()
        for number in range(25):
            self.assertEqual(send(hall, ANN, BOB, answers=number - 1 if number else None), number)
        self.assertIsNone(head(hall, 0, "line"))
        self.assertEqual(head(hall, 1, "line"), "0")
        self.assertEqual(head(hall, 3, "line"), "0 1 2")
        self.assertEqual(head(hall, 20, "line"), " ".join(str(one) for one in range(20)))
        self.assertEqual(head(hall, 21, "line"), " ".join(str(one) for one in range(1, 21)))
        self.assertEqual(head(hall, 24, "line"), " ".join(str(one) for one in range(4, 24)))
        self.assertEqual([name for name, value in hall.letter(24)[0]], ["from", "to", "about", "number", "line"])
        send(hall, CID, DAN, answers=2)
        self.assertEqual(head(hall, 25, "line"), "0 1 2")
        self.assertEqual(head(hall, 25, "number"), "25")

    def test_the_letter_as_handed_in(self):
        body = parts(part("a", ("from", "x")), ((), parts(part("\n="))))
        hall = three()
        given = listed(body)
        self.assertEqual(hall.send(list(ANN), [list(BOB)], "", given), 0)
        given[1].clear()
        self.assertEqual(hall.letter(0)[1], body)
        self.assertEqual(read_letter(hall.read(BOB, 0))[1], body)


class Refusals(unittest.TestCase):

    def test_each(self):
        hall = three(elm=(("all", (ANN,)),))
        for sender in (("zed", "elm"), ("all", "elm"), ("post", "elm"), ("ann", "oak"), ("ann", "nowhere")):
            self.assertEqual(refused(send, hall, sender, BOB), ("NoOne", sender))
        for number in (0, 1, -1, 99):
            self.assertEqual(refused(send, hall, ANN, BOB, answers=number), ("NoLetter", number))
        send(hall, ANN, BOB)
        self.assertEqual(refused(send, hall, ANN, BOB, answers=1), ("NoLetter", 1))
        self.assertEqual(refused(send, hall, ANN, BOB, answers=-1), ("NoLetter", -1))
        self.assertIsNone(refused(send, hall, ANN, BOB, answers=0))
        hall.shut("elm")
        self.assertEqual(refused(send, hall, BOB, ANN), ("Shut", "elm"))
        self.assertIsNone(refused(send, hall, CID, ANN))

    def test_no_way(self):
        hall = Hall(((house("elm", "ann", ways=("plain",)), house("oak", "cid", ways=("packed",))), (("elm", "oak", 1),)))
        for body in (ODD, words("x" * 61), words("5%"), parts(part("x"), ((), parts(((), ODD))))):
            self.assertEqual(refused(hall.send, ANN, (ANN,), "", body), ("NoWay",))
            self.assertIsNone(refused(hall.send, CID, (CID,), "", body))
        self.assertIsNone(refused(hall.send, ANN, (ANN,), "", words("x" * 60 + "\n=")))
        self.assertEqual(hall.letters(), 5)

    def test_in_order(self):
        hall = Hall(((house("elm", "ann", ways=("plain",)), house("oak", "cid")), ()))
        hall.shut("elm")
        self.assertEqual(refused(hall.send, ("zed", "elm"), (CID,), "", ODD, answers=5), ("NoOne", ("zed", "elm")))
        self.assertEqual(refused(hall.send, ANN, (CID,), "", ODD, answers=5), ("Shut", "elm"))
        hall.wake("elm")
        self.assertEqual(refused(hall.send, ANN, (CID,), "", ODD, answers=5), ("NoLetter", 5))
        hall.send(CID, (CID,), "", ODD)
        self.assertEqual(refused(hall.send, ANN, (CID,), "", ODD, answers=0), ("NoWay",))
        self.assertEqual(hall.letters(), 1)


class Becoming(unittest.TestCase):

    def test_brought_at_home(self):
        hall = three()
        send(hall, ANN, BOB)
        self.assertEqual(hall.copies(0), [(0, BOB, brought((0, "in", "there")))])
        self.assertEqual((hall.hops(0), hall.passed(0)), ([("elm", 0)], ()))
        self.assertEqual(hall.trail(0), [(0, "elm", "came"), (0, "elm", "brought")])
        self.assertEqual(hall.pieces(BOB, BOB, "in"), [(0, 0, 0, ())])

    def test_to_oneself(self):
        hall = three()
        send(hall, ANN, ANN)
        self.assertEqual(states(hall, 0), [(ANN, brought((0, "in", "there")))])

    def test_waits_for_another_house(self):
        hall = three()
        hall.tick(many=3)
        send(hall, ANN, EVE, CID)
        self.assertEqual(states(hall, 0), [(EVE, ("queue", "elm", "oak", 3, 0)), (CID, ("queue", "elm", "oak", 3, 0))])
        self.assertEqual(hall.queue("elm"), [0, 1])
        self.assertEqual(hall.trail(0), [(3, "elm", "came"), (3, "elm", "queue")])

    def test_numbers_each_with_all_that_comes_of_it_ahead_of_the_next(self):
        hall = three(elm=(("all", (BOB, ("zed", "elm"), CID)),))
        self.assertEqual(send(hall, ANN, ("no", "elm"), ("all", "elm"), BOB), 0)
        # Letter 1 tells of copy 0, letter 2 of copy 4, each with a copy right behind it.
        self.assertEqual([(row[0], row[1]) for row in hall.copies(0)],
                         [(0, ("no", "elm")), (2, ("all", "elm")), (3, BOB), (4, ("zed", "elm")), (6, CID), (7, BOB)])
        self.assertEqual([row[:2] for row in hall.copies(1)], [(1, ANN)])
        self.assertEqual([row[:2] for row in hall.copies(2)], [(5, ANN)])
        self.assertEqual(state(hall, 2), ("spread", (3, 4, 6)))
        self.assertEqual(state(hall, 7), ("again",))
        self.assertEqual(hall.letters(), 3)
        self.assertEqual(send(hall, ANN, BOB), 3)
        self.assertEqual(hall.copies(3)[0][0], 8)
        self.assertEqual([piece[0] for piece in hall.pieces(ANN, ANN, "in")], [0, 2])
        self.assertEqual([piece[0] for piece in hall.pieces(BOB, BOB, "in")], [1, 3])

    def test_noway(self):
        hall = Hall(((house("elm", "ann"), house("oak", "cid"), house("ash", "eve")), (("elm", "oak", 1),)))
        send(hall, ANN, EVE, ("ann", "nowhere"), ("zed", "ash"), CID)
        self.assertEqual([row[1] for row in states(hall, 0)],
                         [("failed", "noway")] * 3 + [("queue", "elm", "oak", 0, 0)])
        self.assertEqual(hall.trail(0), [(0, "elm", "came"), (0, "elm", "failed")])

    def test_nobody(self):
        hall = three(elm=(("all", (BOB,)),))
        send(hall, ANN, ("zed", "elm"), ("post", "elm"), ("cid", "elm"))
        self.assertEqual([row[1] for row in states(hall, 0)], [("failed", "nobody")] * 3)

    def test_shut_and_cut_are_no_matter_for_the_way(self):
        hall = three()
        hall.shut("oak")
        hall.cut("elm", "oak")
        send(hall, ANN, EVE)
        self.assertEqual(state(hall, 0), ("queue", "elm", "oak", 0, 0))

    def test_hops_of_a_copy_passed_on(self):
        hall = three(oak=(("all", (DAN, EVE)),))
        send(hall, ANN, ("all", "oak"))
        hall.tick(many=3)
        self.assertEqual(state(hall, 0), ("spread", (1, 2)))
        self.assertEqual(hall.trail(0), [(0, "elm", "came"), (0, "elm", "queue"), (1, "elm", "left"), (3, "oak", "came"), (3, "oak", "spread")])
        for copy in (1, 2):
            self.assertEqual((hall.hops(copy), hall.passed(copy)), ([("elm", 0), ("oak", 3)], (("all", "oak"),)))
        self.assertEqual(hall.trail(1), [(3, "oak", "brought")])
        self.assertEqual(hall.trail(2), [(3, "oak", "queue"), (3, "oak", "left")])
        hall.tick()
        self.assertEqual(hall.hops(2), [("elm", 0), ("oak", 3), ("ash", 4)])
        self.assertEqual(hall.hops(1), [("elm", 0), ("oak", 3)])
        self.assertEqual(hall.trail(2)[2:], [(4, "ash", "came"), (4, "ash", "brought")])
        self.assertEqual(read_letter(hall.read(EVE, 1))[0][:4],
                         (("came", "ash 4"), ("came", "oak 3"), ("came", "elm 0"), ("passed", "all@oak")))


class Codes(unittest.TestCase):

    def two(self, ways, most=9000, lists=()):
        return Hall(((house("elm", "ann bob", lists), house("oak", "cid", ways=ways, most=most), house("ash", "eve")),
                     (("elm", "oak", 1), ("oak", "ash", 1))))

    def test_by_the_ways_of_the_next_house(self):
        hall = self.two(("plain",))
        hall.send(ANN, (CID, EVE), "", ODD)
        self.assertEqual([row[1] for row in states(hall, 0)], [("failed", "code")] * 2)
        hall.send(EVE, (EVE, ANN), "", ODD)
        self.assertEqual([row[1] for row in states(hall, 3)], [brought((2, "in", "there")), ("failed", "code")])
        hall.send(ANN, (CID,), "", words("x"))
        self.assertEqual(states(hall, 5), [(CID, ("queue", "elm", "oak", 0, 0))])
        for way in ("marked", "packed"):
            other = self.two((way,))
            other.send(ANN, (CID,), "", ODD)
            self.assertEqual(state(other, 0)[0], "queue")

    def test_a_house_further_on_is_looked_at_when_it_is_next(self):
        hall = Hall(((house("elm", "ann"), house("oak", "cid"), house("ash", "eve", ways=("plain",))), (("elm", "oak", 1), ("oak", "ash", 1))))
        hall.send(ANN, (EVE,), "", ODD)
        self.assertEqual(state(hall, 0)[0], "queue")
        hall.tick(many=2)
        self.assertEqual(state(hall, 0), ("failed", "code"))
        self.assertEqual(hall.letter(1)[0][0], ("from", "post@oak"))

    def body(self, many):
        """A body whose text grows by one sign with each one more."""
        return parts(part("tea\n" * 50), part("x\n" * (many // 2) + "x" * (many % 2)))

    def just_most(self, heads, ways):
        """How many signs the body needs for a text of just 400."""
        sizes = [len(letter_text((heads, self.body(many)), ways=ways)) for many in range(300)]
        return sizes.index(400)

    def test_long_at_most_and_one_more(self):
        for way in ("plain", "marked"):
            heads = (("came", "elm 0"), ("from", "ann@elm"), ("to", "cid@oak"), ("about", "hi"), ("number", "0"))
            many = self.just_most(heads, (way,))
            for more, told in ((0, ("queue", "elm", "oak", 0, 0)), (1, ("failed", "long"))):
                hall = self.two((way,), most=400)
                hall.send(ANN, (CID,), "hi", self.body(many + more))
                self.assertEqual(state(hall, 0), told)

    def test_long_counts_passed_and_came(self):
        lists = (("all", (CID,)),)
        own = (("from", "ann@elm"), ("to", "all@elm"), ("about", "hi"), ("number", "0"))
        many = self.just_most((("came", "elm 0"), ("passed", "all@elm")) + own, ("plain",))
        for more, told in ((0, "queue"), (1, "failed")):
            hall = self.two(("plain",), 400, lists)
            hall.send(ANN, (("all", "elm"),), "hi", self.body(many + more))
            self.assertEqual(state(hall, 1)[0], told)

    def test_long_counts_hops_but_not_the_next_one(self):
        plan = ((house("elm", "ann"), house("oak", "cid"), house("ash", "eve", most=400)), (("elm", "oak", 1), ("oak", "ash", 1)))
        own = (("from", "ann@elm"), ("to", "eve@ash"), ("about", "hi"), ("number", "0"))
        many = self.just_most((("came", "oak 12"), ("came", "elm 10")) + own, ("plain",))
        for more, told in ((0, ("link", "oak", "ash", 13)), (1, ("failed", "long"))):
            hall = Hall(plan)
            hall.tick(many=10)
            hall.send(ANN, (EVE,), "hi", self.body(many + more))
            hall.tick(many=2)
            self.assertEqual(state(hall, 0), told)

    def test_long_by_the_next_houses_ways_and_most(self):
        body = ("words", (233,) * 100)
        # Marked five signs each, packed less than three.
        for ways, most, told in ((("marked",), 560, "failed"), (("marked",), 700, "queue"), (("packed",), 400, "queue"),
                                 (("marked", "packed"), 400, "queue")):
            hall = self.two(ways, most)
            hall.send(ANN, (CID,), "", body)
            self.assertEqual(state(hall, 0)[0], told)

    def test_code_ahead_of_long_and_noway_ahead_of_both(self):
        body = parts(*[((), ("words", (233,) * 300))] * 4)
        hall = self.two(("plain",), 400)
        hall.send(ANN, (CID, ("x", "nowhere")), "", body)
        self.assertEqual([row[1] for row in states(hall, 0)], [("failed", "code"), ("failed", "noway")])
        hall = self.two(("marked",), 400)
        hall.send(ANN, (CID,), "", body)
        self.assertEqual(state(hall, 0), ("failed", "long"))


class ListsAndOns(unittest.TestCase):

    def test_a_list_in_itself(self):
        hall = one_house("ann", "bob", lists=(("all", (("all", "elm"), BOB)),))
        send(hall, ANN, ("all", "elm"))
        self.assertEqual(states(hall, 0), [(("all", "elm"), ("spread", (1, 3))), (("all", "elm"), ("failed", "ring")),
                                           (BOB, brought((1, "in", "there")))])
        self.assertEqual(head(hall, 1, "about"), "not brought ring")

    def test_a_list_reached_twice(self):
        few = ("few", "elm")
        hall = one_house("ann", "bob", lists=(("all", (few, BOB, ("some", "elm"))), ("few", (BOB, ANN)), ("some", (few, ANN))))
        send(hall, ANN, ("all", "elm"), few)
        self.assertEqual([row[1][0] for row in states(hall, 0)],
                         ["spread", "spread", "brought", "brought", "again", "spread", "again", "again", "again"])
        self.assertEqual(hall.passed(2), (("all", "elm"), few))
        self.assertEqual(hall.passed(6), (("all", "elm"), ("some", "elm")))
        self.assertEqual(hall.trail(8), [(0, "elm", "came"), (0, "elm", "again")])
        self.assertEqual(hall.trail(6), [(0, "elm", "again")])

    def test_a_ring_over_two_houses(self):
        hall = three(elm=(("a", (("b", "oak"), ANN)),), oak=(("b", (("a", "elm"), CID)),))
        send(hall, ANN, ("a", "elm"))
        hall.tick(many=20)
        self.assertEqual([(row[1], row[2][:2]) for row in hall.copies(0)],
                         [(("a", "elm"), ("spread", (1, 2))), (("b", "oak"), ("spread", (3, 4))), (ANN, ("brought", ((0, "in", "there"),))),
                          (("a", "elm"), ("failed", "ring")), (CID, ("brought", ((1, "in", "there"),)))])
        self.assertEqual(hall.hops(3), [("elm", 0), ("oak", 3), ("elm", 5)])

    def test_ring_is_looked_at_only_at_home(self):
        # On its way back to elm the copy waits at oak as any other one.
        hall = three(elm=(("a", (("b", "oak"),)),), oak=(("b", (("a", "elm"),)),))
        send(hall, ANN, ("a", "elm"))
        hall.tick(many=3)
        self.assertEqual(state(hall, 2), ("link", "oak", "elm", 5))

    def test_sent_on(self):
        hall = three()
        hall.rule(BOB, on_all(("on", CID), ("on", ANN)))
        send(hall, ANN, BOB)
        self.assertEqual(states(hall, 0), [(BOB, brought(copies=(1, 2))), (CID, ("queue", "elm", "oak", 0, 0)), (ANN, brought((0, "in", "there")))])
        self.assertEqual((hall.passed(1), hall.hops(1)), ((BOB,), [("elm", 0)]))
        self.assertEqual(hall.trail(2), [(0, "elm", "brought")])
        self.assertEqual(hall.find(BOB, ("auto",)), [])

    def test_pieces_then_ons_each_with_all_behind_it(self):
        hall = one_house("ann", "bob", "cid", "dan")
        cid, dan = ("cid", "elm"), ("dan", "elm")
        hall.rule(ANN, on_all(("on", BOB), ("file", "old"), ("on", cid), ("file", "new")))
        hall.rule(BOB, on_all(("file", "in"), ("on", dan)))
        send(hall, dan, ANN)
        self.assertEqual(states(hall, 0), [(ANN, brought((0, "old", "there"), (1, "new", "there"), copies=(1, 3))),
                                           (BOB, brought((2, "in", "there"), copies=(2,))), (dan, brought((3, "in", "there"))),
                                           (cid, brought((4, "in", "there")))])
        self.assertEqual(hall.passed(2), (ANN, BOB))

    def test_marks_and_boxes(self):
        hall = three()
        hall.rule(BOB, on_all(("mark", "hot"), ("file", "old"), ("mark", "a"), ("file", "in")))
        send(hall, ANN, BOB)
        self.assertEqual(hall.pieces(BOB, BOB, "old"), [(0, 0, 0, ("a", "hot"))])
        self.assertEqual(hall.pieces(BOB, BOB, "in"), [(1, 0, 0, ("a", "hot"))])

    def test_dropped_by_a_rule_is_brought(self):
        hall = three()
        hall.rule(BOB, on_all(("file", "old"), ("drop",)))
        send(hall, ANN, BOB)
        self.assertEqual(states(hall, 0), [(BOB, brought())])
        self.assertEqual(hall.find(BOB, ("not", ("auto",))), [])

    def test_sent_on_to_oneself_and_in_a_ring(self):
        hall = one_house("ann", "bob")
        hall.rule(ANN, on_all(("on", BOB)))
        hall.rule(BOB, on_all(("on", ANN)))
        send(hall, ANN, ANN)
        self.assertEqual(states(hall, 0), [(ANN, brought(copies=(1,))), (BOB, brought(copies=(2,))), (ANN, ("failed", "ring"))])
        # The telling is sent on from ann to bob and back as well, but its own failing isn't told.
        self.assertEqual(states(hall, 1), [(ANN, brought(copies=(4,))), (BOB, brought(copies=(5,))), (ANN, ("failed", "ring"))])
        self.assertEqual(hall.letters(), 2)
        other = one_house("ann", "bob")
        other.rule(BOB, on_all(("on", BOB), ("file", "in")))
        send(other, ANN, BOB)
        self.assertEqual(states(other, 0), [(BOB, brought((0, "in", "there"), copies=(1,))), (BOB, ("failed", "ring"))])

    def test_rules_look_at_the_letter_without_a_copys_heads(self):
        hall = three(elm=(("all", (BOB,)),))
        hall.rule(BOB, ((("about", "passed"), (("file", "old"),)), (("to", BOB), (("file", "new"),)), (("to", ("all", "elm")), (("file", "all"),))))
        send(hall, ANN, ("all", "elm"))
        self.assertEqual(hall.boxes(BOB), [(BOB, "all"), (BOB, "in")])

    def chain(self, many):
        """Twenty people in a row over five houses that are all joined; each sends on to the next."""
        names = ("elm", "oak", "ash", "fir", "yew")
        folk = [(name, home) for home in names for name in ("ann", "bob", "cid", "dan")]
        hall = Hall((tuple(house(home, "ann bob cid dan") for home in names), tuple((names[k], names[k + 1], 1) for k in range(4))))
        for one, other in zip(folk, folk[1:many]):
            hall.rule(one, on_all(("on", other)))
        send(hall, folk[0], folk[0])
        hall.tick(many=20)
        return hall, folk

    def test_far(self):
        for many, last in ((9, "brought"), (10, "failed"), (15, "failed")):
            hall, folk = self.chain(many)
            rows = hall.copies(0)
            self.assertEqual(rows[min(many, 10) - 1][2][0], last)
            self.assertEqual([row[1] for row in rows], folk[:min(many, 10)])
        self.assertEqual(rows[-1][2], ("failed", "far"))
        self.assertEqual(len(hall.passed(rows[-1][0])), 9)
        self.assertEqual(hall.passed(rows[-2][0]), tuple(folk[:8]))

    def far_then(self, last):
        """A copy with nine passed ahead of this address, at its own house."""
        names = ("ann", "bob", "cid", "dan")
        lists = (("x", (("y", "elm"),)), ("y", (("z", "elm"),)), ("z", (("a", "oak"),)))
        more = (("a", (("b", "oak"),)), ("b", (("c", "oak"),)), ("c", (("ann", "oak"),)))
        hall = Hall(((house("elm", " ".join(names), lists), house("oak", "ann bob cid dan", more)), (("elm", "oak", 1),)))
        hall.rule(("ann", "oak"), on_all(("on", ("bob", "oak"))))
        hall.rule(("bob", "oak"), on_all(("on", ("cid", "oak"))))
        hall.rule(("cid", "oak"), on_all(("on", last)))
        send(hall, ("dan", "elm"), ("x", "elm"))
        hall.tick(many=10)
        row = hall.copies(0)[-1]
        self.assertEqual((row[1], len(hall.passed(row[0]))), (last, 9))
        return row[2]

    def test_ring_ahead_of_far_and_far_ahead_of_all_else(self):
        for last, told in ((("ann", "oak"), "ring"), (("cid", "oak"), "ring"), (("x", "elm"), "ring"), (("dan", "oak"), "far"), (("zed", "oak"), "far"),
                           (("zed", "elm"), "far"), (("ann", "nowhere"), "noway"), (("bob", "elm"), "far")):
            self.assertEqual(self.far_then(last), ("failed", told))

    def test_read_as_it_came(self):
        hall = three(elm=(("all", (EVE,)),), oak=())
        body = parts(((), ("words", (0, 10, 65535))), part("tea=5", ("about", "x")))
        hall.send(ANN, (("all", "elm"),), "hi", body)
        hall.tick(many=5)
        text = hall.read(EVE, 0)
        heads = (("came", "ash 4"), ("came", "oak 3"), ("came", "elm 0"), ("passed", "all@elm"), ("from", "ann@elm"), ("to", "all@elm"),
                 ("about", "hi"), ("number", "0"))
        self.assertEqual(text, letter_text((heads, body)))
        self.assertEqual(read_letter(text), (heads, body))

    def test_read_by_the_ways_of_that_house(self):
        hall = Hall(((house("elm", "ann", ways=("marked",)), house("oak", "cid", ways=("packed",))), (("elm", "oak", 1),)))
        hall.send(ANN, (ANN, CID), "", ("words", signs("abc")))
        hall.tick(many=2)
        self.assertEqual(hall.read(ANN, 0).split("\n")[-2:], ["words marked", "abc"])
        self.assertEqual(hall.read(CID, 1).split("\n")[-2:], ["words packed", "AGEAYgBj"])


if __name__ == "__main__":
    unittest.main()
