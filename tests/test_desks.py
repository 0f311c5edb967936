"""Point [17]: desks."""

import itertools
import unittest

from tests.halls import ALL, ANN, BOB, on_all, one_house, refused, send, three
from tests.test_terms_and_holds import fate


def desk_hall(many=3):
    """Ann has pieces 0 and on, bob one more."""
    hall = one_house("ann", "bob")
    for turn in range(many):
        send(hall, BOB, ANN)
    send(hall, ANN, BOB)
    return hall


def shown(hall, number=None):
    """The boxes and pieces that ann's house, or a desk, shows."""
    if number is None:
        boxes = sorted({box for owner, box in hall.boxes(ANN) if owner == ANN and hall.pieces(ANN, ANN, box)})
        return {box: hall.pieces(ANN, ANN, box) for box in boxes}
    return {box: hall.desk_pieces(number, box) for box in hall.desk_boxes(number)}


class Desks(unittest.TestCase):

    def test_numbers(self):
        hall = three()
        self.assertEqual([hall.desk(ANN), hall.desk(BOB), hall.desk(who=("cid", "oak")), hall.desk(ANN)], [1, 2, 3, 4])
        self.assertEqual((hall.desk_boxes(1), hall.desk_pieces(1, "in"), hall.desk_waits(1)), ([], [], []))

    def test_refused(self):
        hall = desk_hall()
        self.assertEqual(refused(hall.desk, ("zed", "elm")), ("NoOne", ("zed", "elm")))
        hall.desk(ANN)
        for number in (0, 2, -1, 9):
            for ask in (lambda: hall.away(number, ("drop", 0)), lambda: hall.away(number, ("drop", 99)), lambda: hall.meet(number),
                        lambda: hall.desk_boxes(number), lambda: hall.desk_pieces(number, "in"), lambda: hall.desk_waits(number)):
                self.assertEqual(refused(ask), ("NoDesk", number))
        for piece in (3, 4, 99, -1):
            for deed in (("drop", piece), ("file", piece, "old"), ("mark", piece, "x", True)):
                self.assertEqual(refused(hall.away, 1, deed), ("NoPiece", piece))
        hall.shut("elm")
        self.assertEqual(refused(hall.meet, 1), ("Shut", "elm"))
        self.assertEqual(refused(hall.meet, 2), ("NoDesk", 2))
        self.assertEqual(refused(hall.desk, ANN), ("Shut", "elm"))
        self.assertEqual(refused(hall.desk, ("zed", "elm")), ("NoOne", ("zed", "elm")))
        self.assertIsNone(refused(hall.away, 1, ("drop", 0)))
        self.assertEqual(hall.desk_boxes(1), ["in"])

    def test_it_knows_what_the_house_knows(self):
        hall = desk_hall()
        hall.file(ANN, 0, "old")
        hall.mark(ANN, 1, "hot")
        hall.drop(ANN, 2)
        hall.desk(ANN)
        self.assertEqual(shown(hall, 1), {"in": [(1, 1, 0, ("hot",))], "old": [(0, 0, 0, ())]})
        self.assertEqual(hall.meet(1), (0, 0))
        self.assertEqual(refused(hall.away, 1, ("drop", 2)), ("NoPiece", 2))

    def test_each_deed_away(self):
        hall = desk_hall()
        hall.desk(ANN)
        self.assertIsNone(hall.away(1, ("file", 0, "old")))
        hall.away(1, ["mark", 1, "hot", True])
        hall.away(1, ("mark", 1, "cold", False))
        hall.away(1, ("drop", 2))
        self.assertEqual(shown(hall, 1), {"in": [(1, 1, 0, ("hot",))], "old": [(0, 0, 0, ())]})
        self.assertEqual(shown(hall), {"in": [(0, 0, 0, ()), (1, 1, 0, ()), (2, 2, 0, ())]})
        self.assertEqual(hall.desk_waits(1), [("file", 0, "old"), ("mark", 1, "hot", True), ("mark", 1, "cold", False), ("drop", 2)])
        self.assertEqual(refused(hall.away, 1, ("file", 2, "in")), ("NoPiece", 2))
        self.assertEqual(hall.meet(1), (4, 0))
        self.assertEqual(shown(hall), shown(hall, 1))
        self.assertEqual(shown(hall), {"in": [(1, 1, 0, ("hot",))], "old": [(0, 0, 0, ())]})
        self.assertEqual((hall.desk_waits(1), hall.meet(1)), ([], (0, 0)))
        self.assertEqual(fate(hall, 2), ("in", "gone"))

    def test_nothing_otherwise_is_no_matter(self):
        hall = desk_hall()
        hall.desk(ANN)
        hall.away(1, ("file", 0, "in"))
        hall.away(1, ("mark", 0, "x", False))
        self.assertEqual((len(hall.desk_waits(1)), hall.meet(1)), (2, (2, 0)))

    def test_what_the_desk_does_not_know_of(self):
        hall = desk_hall()
        hall.desk(ANN)
        hall.share(ANN, "in", BOB, ("see", "mark"))
        hall.file(ANN, 0, "in")
        hall.mark(BOB, 1, "hot")
        # Deeds on another's pieces aren't counted, nor pieces that are brought or over.
        hall.mark(BOB, 3, "hot")
        send(hall, BOB, ANN)
        self.assertEqual(shown(hall, 1), {"in": [(0, 0, 0, ()), (1, 1, 0, ()), (2, 2, 0, ())]})
        self.assertEqual(refused(hall.away, 1, ("drop", 4)), ("NoPiece", 4))
        self.assertEqual(hall.meet(1), (0, 2))
        self.assertEqual(shown(hall, 1), {"in": [(0, 0, 0, ()), (1, 1, 0, ("hot",)), (2, 2, 0, ()), (4, 4, 0, ())]})
        hall.term(ANN, "in", 1)
        hall.tick()
        self.assertEqual(len(shown(hall, 1)["in"]), 4)
        self.assertIsNone(refused(hall.away, 1, ("file", 0, "old")))
        self.assertEqual(hall.meet(1), (1, 0))
        self.assertEqual((shown(hall, 1), shown(hall)), ({}, {}))
        self.assertEqual(fate(hall, 0), ("old", "gone"))

    def test_a_drop_is_one_when_they_meet(self):
        for held, word in ((True, "kept"), (False, "gone")):
            hall = desk_hall()
            hall.desk(ANN)
            hall.hold(ALL)
            hall.away(1, ("drop", 0))
            self.assertEqual((fate(hall, 0), hall.find(ANN, ALL)), (("in", "there"), [0, 1, 2]))
            if not held:
                hall.release(0)
            self.assertEqual(fate(hall, 0), ("in", "there"))
            hall.meet(1)
            self.assertEqual((fate(hall, 0), hall.find(ANN, ALL)), (("in", word), [1, 2]))

    def test_dropped_at_both(self):
        hall = desk_hall()
        hall.desk(ANN)
        hall.hold(ALL)
        hall.away(1, ("drop", 0))
        hall.drop(ANN, 0)
        hall.hold(("auto",))
        hall.release(0)
        self.assertEqual(fate(hall, 0), ("in", "gone"))
        hall.hold(ALL)
        self.assertEqual(hall.meet(1), (1, 1))
        self.assertEqual(fate(hall, 0), ("in", "gone"))

    def test_a_box_of_what_is_gone_by_the_last_deed(self):
        hall = desk_hall()
        hall.desk(ANN)
        hall.away(1, ("file", 0, "old"))
        hall.drop(ANN, 0)
        hall.meet(1)
        self.assertEqual((fate(hall, 0), shown(hall, 1).keys()), (("old", "gone"), {"in"}))

    def test_terms_and_sight_by_what_the_desk_did(self):
        hall = desk_hall()
        hall.desk(ANN)
        hall.term(ANN, "in", 3)
        hall.away(1, ("file", 0, "safe"))
        hall.share(ANN, "safe", BOB, ("see",))
        hall.tick(many=2)
        self.assertEqual(refused(hall.read, BOB, 0), ("NoPiece", 0))
        hall.meet(1)
        self.assertEqual(hall.find(BOB, ALL), [0, 3])
        hall.tick()
        self.assertEqual(hall.find(ANN, ALL), [0])


class Stamps(unittest.TestCase):

    def boxes(self, hall, number=None):
        return {row[0]: box for box, rows in shown(hall, number).items() for row in rows}

    def test_alike_counts_go_by_the_number(self):
        hall = desk_hall()
        hall.desk(ANN)
        hall.desk(ANN)
        hall.file(ANN, 0, "house")
        hall.away(2, ("file", 0, "second"))
        hall.away(1, ("file", 0, "first"))
        # All are the first ones known at their place: (1, 0), (1, 2), (1, 1).
        for number in (1, 2, 1):
            hall.meet(number)
        self.assertEqual([self.boxes(hall, number)[0] for number in (None, 1, 2)], ["second"] * 3)

    def test_the_greater_count_goes_first(self):
        hall = desk_hall()
        hall.desk(ANN)
        hall.away(1, ("file", 0, "desk"))
        hall.mark(ANN, 1, "x")
        hall.file(ANN, 0, "house")
        # (1, 1) at the desk, (2, 0) in the house.
        self.assertEqual(hall.meet(1), (1, 2))
        self.assertEqual((self.boxes(hall)[0], self.boxes(hall, 1)[0]), ("house", "house"))

    def test_behind_a_meeting_counts_go_on_from_the_greatest(self):
        hall = desk_hall()
        hall.desk(ANN)
        hall.desk(ANN)
        for turn in range(3):
            hall.away(1, ("mark", 1, "x", True))
        hall.meet(1)
        hall.file(ANN, 0, "house")
        hall.away(2, ("file", 0, "a"))
        hall.away(2, ("file", 0, "b"))
        hall.away(2, ("file", 0, "desk"))
        # (4, 0) in the house, (3, 2) at the desk.
        hall.meet(2)
        self.assertEqual(self.boxes(hall)[0], "house")
        hall.away(2, ("file", 0, "desk"))
        hall.meet(2)
        self.assertEqual(self.boxes(hall)[0], "desk")

    def test_of_that_owners_pieces_alone(self):
        hall = desk_hall()
        for turn in range(5):
            hall.mark(BOB, 3, "x")
        hall.desk(ANN)
        # The deeds on bob's piece leave the house's count of ann's at 1.
        hall.file(ANN, 0, "house")
        hall.away(1, ("file", 0, "desk"))
        hall.meet(1)
        self.assertEqual(self.boxes(hall)[0], "desk")

    def test_counts_over_all_pieces_of_the_owner(self):
        hall = desk_hall()
        hall.desk(ANN)
        hall.mark(ANN, 2, "x")
        hall.file(ANN, 0, "house")
        hall.away(1, ("file", 0, "desk"))
        hall.meet(1)
        self.assertEqual(self.boxes(hall)[0], "house")

    def test_a_drop_counts_too(self):
        hall = desk_hall()
        hall.desk(ANN)
        hall.drop(ANN, 2)
        hall.file(ANN, 0, "house")
        hall.away(1, ("file", 0, "desk"))
        self.assertEqual(hall.meet(1), (1, 2))
        self.assertEqual(self.boxes(hall)[0], "house")

    def test_others_deeds_have_the_houses_number(self):
        hall = desk_hall()
        hall.share(ANN, "in", BOB, ("see", "mark"))
        hall.desk(ANN)
        hall.away(1, ("mark", 0, "x", False))
        hall.mark(BOB, 0, "x")
        hall.meet(1)
        self.assertEqual(hall.pieces(ANN, ANN, "in")[0], (0, 0, 0, ()))
        hall.away(1, ("mark", 0, "x", False))
        hall.mark(BOB, 0, "y")
        hall.mark(BOB, 0, "x")
        self.assertEqual(hall.meet(1), (1, 2))
        self.assertEqual((hall.pieces(ANN, ANN, "in")[0], hall.desk_pieces(1, "in")[0]), ((0, 0, 0, ("x", "y")),) * 2)

    def test_refused_deeds_and_deeds_of_other_kinds_count_nothing(self):
        hall = desk_hall()
        hall.desk(ANN)
        for turn in range(3):
            refused(hall.drop, ANN, 99)
            refused(hall.away, 1, ("drop", 99))
            hall.share(ANN, "in", BOB, ())
            hall.term(ANN, "in", None)
        hall.file(ANN, 0, "house")
        hall.away(1, ("file", 0, "desk"))
        self.assertEqual(hall.meet(1), (1, 1))
        self.assertEqual(self.boxes(hall)[0], "desk")

    def test_marks_by_name(self):
        hall = one_house("ann", "bob")
        hall.rule(ANN, on_all(("mark", "a"), ("mark", "b")))
        send(hall, BOB, ANN)
        hall.desk(ANN)
        hall.mark(ANN, 0, "a", on=False)
        hall.away(1, ("mark", 0, "b", False))
        hall.away(1, ("mark", 0, "c", True))
        hall.meet(1)
        self.assertEqual((hall.pieces(ANN, ANN, "in"), hall.desk_pieces(1, "in")), ([(0, 0, 0, ("c",))],) * 2)

    def test_in_any_order_they_come_to_show_the_same(self):
        deeds = {1: (("file", 0, "one"), ("mark", 1, "x", True), ("drop", 2)), 2: (("mark", 1, "x", False), ("file", 0, "two"), ("mark", 2, "y", True)),
                 3: (("file", 2, "three"), ("file", 0, "three"), ("file", 1, "three"))}
        ends = []
        for order in itertools.permutations((1, 2, 3)):
            for middle in (False, True):
                hall = desk_hall()
                for number in (1, 2, 3):
                    hall.desk(ANN)
                for number in order:
                    for deed in deeds[number]:
                        hall.away(number, deed)
                for number in order if middle else order[::-1]:
                    hall.meet(number)
                for number in (1, 2, 3):
                    hall.meet(number)
                    self.assertEqual(shown(hall, number), shown(hall))
                ends.append(shown(hall))
        # Of piece 0 (1, 1), (2, 2), (2, 3) are known, of piece 1's mark (2, 1) and (1, 2).
        self.assertEqual(ends, [{"three": [(0, 0, 0, ()), (1, 1, 0, ("x",))]}] * 12)

    def test_meeting_pair_by_way_of_the_house(self):
        hall = desk_hall()
        hall.desk(ANN)
        hall.desk(ANN)
        hall.away(1, ("file", 0, "one"))
        hall.away(1, ("file", 1, "one"))
        hall.away(2, ("file", 2, "two"))
        self.assertEqual([hall.meet(2), hall.meet(1), hall.meet(2), hall.meet(1)], [(1, 0), (2, 1), (0, 2), (0, 0)])


if __name__ == "__main__":
    unittest.main()
