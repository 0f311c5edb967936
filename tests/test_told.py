"""Point [18]: what is told of all."""

import unittest

from letterhall.hall import Hall
from tests.halls import ALL, ANN, ARGUMENTS, BOB, CID, EVE, do, house, on_all, one_house, refused, replayed, send, state, states, three, told
from tests.samples import kinds, listed, part, parts, words

PLAN = ((house("elm", "ann bob", (("all", (BOB, CID)),)), house("oak", "cid")), (("elm", "oak", 2),))

# Each deed, as a log has it, all done one behind the other with a hall of PLAN.
LOG = [
    ("send", ANN, (("all", "elm"), ("zed", "oak")), "tea", parts(part("a", ("to", "b"))), None),
    ("rule", BOB, ((("both", ("from", ANN), ("not", ("auto",))), (("on", CID), ("mark", "hot"), ("answer", "x"), ("stop",))),)),
    ("tick", 3), ("shut", "oak"), ("shut", "oak"), ("wake", "oak"), ("cut", "oak", "elm"), ("tie", "elm", "oak"),
    ("send", BOB, (ANN,), "", words("x"), 0),
    ("file", BOB, 0, "old"), ("mark", BOB, 0, "hot", True), ("mark", BOB, 0, "hot", False), ("share", BOB, "old", ANN, ("drop", "see")),
    ("term", BOB, "old", 30), ("term", BOB, "in", None), ("hold", ("word", "tea"), None), ("hold", ALL, (ANN, BOB)), ("hold", ALL, ()),
    ("desk", BOB), ("away", 1, ("file", 0, "new")), ("away", 1, ("mark", 0, "cold", True)), ("away", 1, ("drop", 0)), ("meet", 1),
    ("release", 1), ("tick", 1), ("drop", ANN, 2),
]


class Log(unittest.TestCase):

    def test_as_handed_in(self):
        hall = Hall(PLAN)
        for at, entry in enumerate(LOG):
            self.assertEqual(kinds(hall.log()), kinds(LOG[:at]))
            do(hall, entry)
        self.assertEqual(kinds(hall.log()), kinds(LOG))
        self.assertEqual({entry[0] for entry in LOG}, set(ARGUMENTS))

    def test_lists_as_tuples_however_deep(self):
        hall = Hall(PLAN)
        for entry in LOG:
            do(hall, (entry[0], *listed(entry[1:])))
        self.assertEqual(kinds(hall.log()), kinds(LOG))
        self.assertEqual(told(hall), told(replayed(PLAN, LOG)))

    def test_what_was_left_out(self):
        hall = Hall(PLAN)
        hall.send(ANN, (BOB,), "", words(""))
        hall.tick()
        hall.mark(BOB, 0, "hot")
        hall.hold(ALL)
        self.assertEqual(hall.log(), [("send", ANN, (BOB,), "", words(""), None), ("tick", 1), ("mark", BOB, 0, "hot", True), ("hold", ALL, None)])

    def test_by_names_in_another_order(self):
        hall = Hall(PLAN)
        for entry in LOG:
            named = dict(zip(ARGUMENTS[entry[0]], entry[1:]))
            getattr(hall, entry[0])(**dict(reversed(named.items())))
        self.assertEqual(kinds(hall.log()), kinds(LOG))
        self.assertEqual(told(hall), told(replayed(PLAN, LOG)))

    def test_from_an_entry_on(self):
        hall = replayed(PLAN, LOG)
        for first in (0, 1, 5, len(LOG) - 1, len(LOG), len(LOG) + 1, 400):
            self.assertEqual(kinds(hall.log(first=first)), kinds(LOG[first:]))
        calls = hall.calls()
        for first in (0, 1, 2, 7, len(calls) - 1, len(calls), 900):
            self.assertEqual(kinds(hall.calls(first=first)), kinds(calls[first:]))

    def test_calls(self):
        hall = Hall(PLAN)
        for entry in LOG:
            do(hall, entry)
        self.assertEqual(kinds(hall.calls()), kinds([(way, entry[0]) for entry in LOG for way in ("in", "out")]))

    def test_asks_are_no_calls(self):
        hall = replayed(PLAN, LOG)
        ahead = hall.calls()
        told(hall)
        hall.twin()
        self.assertEqual(hall.calls(), ahead)

    def test_refused_deeds_are_called_but_not_logged(self):
        nobody = ("zed", "elm")
        for entry in (("send", nobody, (BOB,), "", words(""), None), ("send", ANN, (BOB,), "", words(""), 99), ("rule", nobody, ()), ("shut", "yew"),
                      ("wake", "yew"), ("cut", "elm", "yew"), ("tie", "elm", "elm"), ("file", ANN, 99, "in"), ("mark", ANN, 99, "x", True),
                      ("drop", ANN, 99), ("share", ANN, "in", ANN, ()), ("term", nobody, "in", 1), ("hold", ALL, (nobody,)), ("release", 99),
                      ("desk", nobody), ("away", 99, ("drop", 0)), ("away", 1, ("drop", 99)), ("meet", 99)):
            hall = replayed(PLAN, LOG)
            ahead, calls = told(hall), hall.calls()
            self.assertIsNotNone(refused(do, hall, entry), entry)
            self.assertEqual(told(hall), ahead)
            self.assertEqual(hall.calls(), calls + [("in", entry[0]), ("out", entry[0])])


class Alike(unittest.TestCase):

    def test_equal(self):
        one, other = Hall(PLAN), Hall(PLAN)
        self.assertIs(one == other, True)
        for entry in LOG:
            do(one, entry)
            self.assertIs(one == other, False)
            self.assertIs(one != other, True)
            do(other, entry)
            self.assertIs(one == other, True)
            self.assertIs(one != other, False)

    def test_whatever_calls(self):
        one, other = Hall(PLAN), Hall(PLAN)
        refused(one.shut, "yew")
        self.assertIs(one == other, True)
        self.assertNotEqual(one.calls(), other.calls())

    def test_like_plans(self):
        again = (tuple(tuple(list(home)) for home in PLAN[0]), tuple(PLAN[1]))
        self.assertIs(Hall(PLAN) == Hall(again), True)
        self.assertIs(Hall(PLAN) == Hall((PLAN[0], (("oak", "elm", 2),))), False)
        self.assertIs(Hall(PLAN) == Hall((PLAN[0], ())), False)

    def test_a_deed_that_changed_nothing_counts(self):
        one, other = Hall(PLAN), Hall(PLAN)
        one.wake("elm")
        self.assertIs(one == other, False)

    def test_things_that_are_no_hall(self):
        hall = Hall(PLAN)
        for thing in (None, 0, True, "", (), [], PLAN, hall.log(), object(), {}, Hall):
            self.assertIs(hall == thing, False)
            self.assertIs(thing == hall, False)
            self.assertIs(hall != thing, True)

    def test_len(self):
        hall = Hall(PLAN)
        self.assertEqual((len(hall), hall.letters()), (0, 0))
        send(hall, ANN, ("zed", "elm"))
        self.assertEqual((len(hall), hall.letters()), (2, 2))

    def test_twin_at_each_moment(self):
        hall = Hall(PLAN)
        twins = []
        for entry in LOG:
            twins.append(hall.twin())
            refused(hall.shut, "yew")
            do(hall, entry)
        for at, twin in enumerate(twins):
            self.assertEqual(told(twin), told(replayed(PLAN, LOG[:at])))
            self.assertEqual(len(twin.calls()), 4 * at)
            for entry in LOG[at:]:
                do(twin, entry)
            self.assertEqual(told(twin), told(hall))
            self.assertIs(twin == hall, True)

    def test_twin_goes_on_by_itself(self):
        other_ways = [("send", CID, (ANN, BOB), "", words("y"), 1), ("tick", 7), ("rule", ANN, ()), ("share", BOB, "in", ANN, ("see",)), ("desk", ANN),
                      ("away", 1, ("mark", 0, "x", True)), ("meet", 1), ("release", 0), ("term", BOB, "in", 1), ("tick", 2), ("shut", "elm"), ("cut", "elm", "oak")]
        for at in range(len(LOG)):
            hall = replayed(PLAN, LOG[:at])
            ahead, calls = told(hall), hall.calls()
            twin = hall.twin()
            self.assertIsInstance(twin, Hall)
            self.assertEqual(twin.calls(), calls)
            for entry in other_ways:
                refused(do, twin, entry)
            self.assertEqual((told(hall), hall.calls()), (ahead, calls))
            twin = hall.twin()
            for entry in other_ways:
                refused(do, hall, entry)
            self.assertEqual((told(twin), twin.calls()), (ahead, calls))


    def test_twin_knows_stamps_and_answers(self):
        hall = one_house("ann", "bob")
        hall.rule(BOB, on_all(("answer", "x")))
        send(hall, ANN, BOB)
        hall.desk(BOB)
        hall.away(1, ("file", 0, "desk"))
        hall.away(1, ("mark", 0, "hot", False))
        for turn in range(3):
            hall.mark(BOB, 0, "hot")
        hall.file(BOB, 0, "house")
        twin = hall.twin()
        for one in (hall, twin):
            send(one, ANN, BOB)
            self.assertEqual(one.meet(1), (2, 4))
            self.assertEqual((one.letters(), one.boxes(BOB)), (3, [(BOB, "house"), (BOB, "in")]))
            self.assertEqual(one.pieces(BOB, BOB, "house"), [(0, 0, 0, ("hot",))])


class Asks(unittest.TestCase):

    def test_states_of_each_sort(self):
        hall = three(elm=(("all", (BOB, CID, BOB[:1] + ("oak",))),))
        send(hall, ANN, ("all", "elm"), BOB, EVE, ("zed", "elm"))
        hall.tick()
        send(hall, ANN, EVE)
        self.assertEqual(kinds(hall.copies(0)), kinds([
            (0, ("all", "elm"), ("spread", (1, 2, 3))), (1, BOB, ("brought", ((0, "in", "there"),), ())), (2, CID, ("link", "elm", "oak", 3)),
            (3, ("bob", "oak"), ("link", "elm", "oak", 3)), (4, BOB, ("again",)), (5, EVE, ("link", "elm", "oak", 3)),
            (6, ("zed", "elm"), ("failed", "nobody"))]))
        self.assertEqual(kinds(hall.copies(2)), kinds([(8, EVE, ("queue", "elm", "oak", 1, 0))]))

    def test_trail_of_each_word(self):
        hall = three(oak=(("all", (CID, CID[:1] + ("elm",))),))
        hall.rule(CID, on_all(("on", CID), ("file", "in")))
        send(hall, ANN, ("all", "oak"), CID)
        hall.cut("elm", "oak")
        hall.tick()
        hall.tie("elm", "oak")
        hall.tick()
        hall.shut("oak")
        hall.wake("oak")
        hall.tick(many=3)
        home = [(0, "elm", "came"), (0, "elm", "queue"), (1, "elm", "late"), (2, "elm", "left"), (2, "elm", "back"), (3, "elm", "left"),
                (5, "oak", "came")]
        self.assertEqual(kinds(hall.trail(0)), kinds(home + [(5, "oak", "spread")]))
        self.assertEqual(kinds(hall.trail(1)), kinds(home + [(5, "oak", "again")]))
        self.assertEqual(states(hall, 0)[2:], [(CID, ("brought", ((0, "in", "there"),), (3,))), (CID, ("failed", "ring")), (("cid", "elm"), ("link", "oak", "elm", 7))])
        self.assertEqual(kinds(hall.trail(2)), kinds([(5, "oak", "brought")]))
        self.assertEqual(kinds(hall.trail(3)), kinds([(5, "oak", "failed")]))
        self.assertEqual(hall.trail(5), [(5, "oak", "queue"), (5, "oak", "left")])
        self.assertEqual((hall.passed(3), hall.passed(0)), ((("all", "oak"), CID), ()))

    def test_passed_is_a_tuple_and_hops_a_list(self):
        hall = replayed(PLAN, LOG)
        self.assertEqual(kinds(hall.passed(1)), kinds((("all", "elm"),)))
        self.assertEqual(kinds(hall.hops(1)), kinds([("elm", 0)]))

    def test_rules_of(self):
        hall = one_house("ann")
        rules = on_all(("file", "in"), ("on", ANN))
        self.assertIsNone(hall.rule(ANN, listed(rules)))
        self.assertEqual(kinds(hall.rules_of(ANN)), kinds(rules))
        self.assertEqual(kinds(hall.rules_of(list(ANN))), kinds(rules))
        hall.rule(ANN, [])
        self.assertEqual(kinds(hall.rules_of(ANN)), kinds(()))

    def test_refused(self):
        hall = replayed(PLAN, LOG)
        copies = max(row[0] for number in range(hall.letters()) for row in hall.copies(number)) + 1
        for number in (-1, hall.letters(), 999):
            for ask in (hall.letter, hall.copies):
                self.assertEqual(refused(ask, number), ("NoLetter", number))
        for number in (-1, copies, 999):
            for ask in (hall.trail, hall.passed, hall.hops):
                self.assertEqual(refused(ask, number), ("NoCopy", number))
        self.assertIsNone(refused(hall.trail, copies - 1))
        for who in (("all", "elm"), ("cid", "elm"), ("zed", "nowhere")):
            self.assertEqual(refused(hall.rules_of, who), ("NoOne", who))
            self.assertEqual(refused(hall.rights, who, "in"), ("NoOne", who))

    def test_box_of_a_piece_is_the_last_one(self):
        hall = one_house("ann")
        send(hall, ANN, ANN)
        hall.file(ANN, 0, "old")
        hall.drop(ANN, 0)
        self.assertEqual(state(hall, 0), ("brought", ((0, "old", "gone"),), ()))


if __name__ == "__main__":
    unittest.main()
