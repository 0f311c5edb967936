"""Points [15] and [16]: terms, holds."""

import unittest

from tests.halls import ALL, ANN, BOB, CID, on_all, one_house, refused, send, state, three


def fate(hall, piece):
    """The box and the word of a piece."""
    for number in range(hall.letters()):
        for copy, address, told in hall.copies(number):
            if told[0] == "brought":
                for row in told[1]:
                    if row[0] == piece:
                        return row[1:]
    return None


class Terms(unittest.TestCase):

    def test_over_at_the_very_tick(self):
        for ticks in (1, 2, 5, 50):
            hall = one_house("ann")
            hall.tick(many=3)
            self.assertIsNone(hall.term(ANN, "in", ticks))
            send(hall, ANN, ANN)
            if ticks > 1:
                hall.tick(many=ticks - 1)
            self.assertEqual(hall.find(ANN, ALL), [0])
            hall.tick()
            self.assertEqual((hall.find(ANN, ALL), fate(hall, 0), hall.boxes(ANN)), ([], ("in", "gone"), [(ANN, "in")]))
            self.assertEqual(refused(hall.read, ANN, 0), ("NoPiece", 0))

    def test_since_it_was_brought_not_since_the_term_was_set(self):
        hall = one_house("ann")
        send(hall, ANN, ANN)
        hall.tick(many=10)
        hall.term(ANN, "in", 4)
        self.assertEqual(hall.find(ANN, ALL), [0])
        hall.tick()
        self.assertEqual(hall.find(ANN, ALL), [])

    def test_brought_within_the_tick(self):
        hall = three()
        hall.term(CID, "in", 1)
        send(hall, ANN, CID)
        hall.tick(many=3)
        self.assertEqual(hall.pieces(CID, CID, "in"), [(0, 0, 3, ())])
        hall.tick()
        self.assertEqual(hall.pieces(CID, CID, "in"), [])

    def test_none_as_at_first(self):
        hall = one_house("ann")
        send(hall, ANN, ANN)
        hall.tick(many=50)
        hall.term(ANN, "in", 60)
        hall.term(ANN, "in", None)
        hall.term(ANN, "old", None)
        hall.tick(many=50)
        self.assertEqual(hall.find(ANN, ALL), [0])

    def test_set_anew(self):
        hall = one_house("ann")
        send(hall, ANN, ANN)
        hall.term(ANN, "in", 3)
        hall.tick(many=2)
        hall.term(ANN, "in", 6)
        hall.tick(many=3)
        self.assertEqual(hall.find(ANN, ALL), [0])
        hall.term(ANN, "in", 400)
        hall.tick(many=3)
        hall.term(ANN, "in", 2)
        hall.tick()
        self.assertEqual(hall.find(ANN, ALL), [])

    def test_by_the_box_it_is_in_then(self):
        hall = one_house("ann")
        for turn in range(3):
            send(hall, ANN, ANN)
        hall.term(ANN, "in", 2)
        hall.term(ANN, "old", 4)
        hall.tick()
        hall.file(ANN, 0, "old")
        hall.file(ANN, 1, "safe")
        hall.tick()
        self.assertEqual(hall.find(ANN, ALL), [0, 1])
        hall.tick(many=2)
        self.assertEqual(hall.find(ANN, ALL), [1])
        hall.file(ANN, 1, "in")
        self.assertEqual(hall.find(ANN, ALL), [1])
        hall.tick()
        self.assertEqual([fate(hall, piece) for piece in (0, 1, 2)], [("old", "gone"), ("in", "gone"), ("in", "gone")])

    def test_of_that_person_alone(self):
        hall = one_house("ann", "bob")
        send(hall, ANN, ANN, BOB)
        hall.term(ANN, "in", 1)
        hall.tick()
        self.assertEqual((hall.find(ANN, ALL), hall.find(BOB, ALL)), ([], [1]))

    def test_of_shut_houses_later(self):
        hall = three()
        send(hall, ANN, BOB)
        send(hall, CID, CID)
        hall.term(BOB, "in", 2)
        hall.term(CID, "in", 2)
        hall.shut("elm")
        hall.tick(many=5)
        self.assertEqual((hall.find(BOB, ALL), hall.find(CID, ALL)), ([0], []))
        hall.wake("elm")
        self.assertEqual(hall.find(BOB, ALL), [0])
        hall.tick()
        self.assertEqual(hall.find(BOB, ALL), [])


class Holds(unittest.TestCase):

    def hall(self):
        """Ann has pieces 0 (tea) and 2 (hall), bob 1 and 3 likewise."""
        hall = one_house("ann", "bob")
        send(hall, ANN, ANN, BOB, about="tea")
        send(hall, ANN, ANN, BOB, about="hall")
        return hall

    def test_numbers_and_people(self):
        hall = self.hall()
        self.assertEqual([hall.hold(ALL), hall.hold(("word", "tea"), people=(ANN,)), hall.hold(ALL, people=()), hall.hold(ALL, people=[list(BOB)]),
                          hall.hold(("word", "none")), hall.hold(ALL, people=(ANN, BOB, ANN)), hall.hold(test=("word", "hall"), people=None)],
                         [0, 1, 2, 3, 4, 5, 6])
        self.assertEqual([hall.held(number) for number in range(7)], [[0, 1, 2, 3], [0], [], [1, 3], [], [0, 1, 2, 3], [2, 3]])
        send(hall, BOB, ANN, about="tea hall")
        self.assertEqual([hall.held(number) for number in range(7)], [[0, 1, 2, 3, 4], [0, 4], [], [1, 3], [], [0, 1, 2, 3, 4], [2, 3, 4]])

    def test_refused(self):
        hall = three(elm=(("all", (ANN,)),))
        for people, told in (((ANN, ("zed", "elm"), ("yan", "elm")), ("zed", "elm")), ((("all", "elm"),), ("all", "elm")),
                             ((("ann", "nowhere"), ANN), ("ann", "nowhere"))):
            self.assertEqual(refused(hall.hold, ALL, people=people), ("NoOne", told))
        self.assertEqual(hall.hold(ALL), 0)
        for number in (1, -1, 7):
            self.assertEqual(refused(hall.held, number), ("NoHold", number))
            self.assertEqual(refused(hall.release, number), ("NoHold", number))
        self.assertIsNone(hall.release(0))
        self.assertEqual((refused(hall.held, 0), refused(hall.release, 0)), (("NoHold", 0), ("NoHold", 0)))
        self.assertEqual(hall.hold(ALL), 1)

    def test_a_shut_house_is_no_matter(self):
        hall = self.hall()
        hall.hold(ALL)
        hall.drop(ANN, 0)
        hall.shut("elm")
        self.assertEqual((hall.hold(("word", "tea")), hall.held(0)), (1, [0, 1, 2, 3]))
        hall.release(0)
        self.assertEqual(fate(hall, 0), ("in", "kept"))
        hall.release(1)
        self.assertEqual(fate(hall, 0), ("in", "gone"))

    def test_begun_ahead_of_a_drop(self):
        hall = self.hall()
        hall.hold(("word", "tea"), people=(ANN,))
        for who, piece in ((ANN, 0), (BOB, 1), (ANN, 2)):
            hall.drop(who, piece)
        self.assertEqual([fate(hall, piece)[1] for piece in range(4)], ["kept", "gone", "gone", "there"])
        self.assertEqual(hall.held(0), [0])
        # Nobody sees a kept one.
        self.assertEqual((hall.find(ANN, ALL), hall.pieces(ANN, ANN, "in"), hall.threads(ANN, ANN, "in"), refused(hall.read, ANN, 0)),
                         ([], [], [], ("NoPiece", 0)))
        hall.release(0)
        self.assertEqual(fate(hall, 0), ("in", "gone"))

    def test_begun_behind_a_drop(self):
        hall = self.hall()
        hall.drop(ANN, 0)
        hall.hold(ALL)
        self.assertEqual((fate(hall, 0), hall.held(0)), (("in", "gone"), [1, 2, 3]))

    def test_over_is_kept_and_goes(self):
        hall = self.hall()
        hall.term(ANN, "in", 2)
        hall.hold(("word", "hall"))
        hall.tick(many=2)
        self.assertEqual((fate(hall, 0), fate(hall, 2), hall.held(0)), (("in", "gone"), ("in", "kept"), [2, 3]))
        hall.release(0)
        self.assertEqual((fate(hall, 2), fate(hall, 3)), (("in", "gone"), ("in", "there")))

    def test_kept_as_long_as_any_holds_it(self):
        hall = self.hall()
        hall.hold(ALL)
        hall.drop(ANN, 0)
        # Begun when the piece was kept already: it is held by both.
        hall.hold(("word", "tea"))
        self.assertEqual(hall.held(1), [0, 1])
        hall.release(0)
        self.assertEqual(fate(hall, 0), ("in", "kept"))
        hall.hold(("word", "hall"))
        hall.release(1)
        self.assertEqual(fate(hall, 0), ("in", "gone"))
        hall.hold(ALL)
        self.assertEqual((fate(hall, 0), hall.held(3)), (("in", "gone"), [1, 2, 3]))

    def test_release_leaves_what_is_there(self):
        hall = self.hall()
        hall.hold(ALL)
        hall.release(0)
        self.assertEqual([fate(hall, piece)[1] for piece in range(4)], ["there"] * 4)

    def test_of_the_letter_not_the_piece(self):
        hall = one_house("ann")
        hall.rule(ANN, on_all(("file", "old"), ("file", "new")))
        send(hall, ANN, ANN, about="tea")
        hall.hold(("about", "tea"))
        hall.drop(ANN, 0)
        self.assertEqual((hall.held(0), state(hall, 0)), ([0, 1], ("brought", ((0, "old", "kept"), (1, "new", "there")), ())))


if __name__ == "__main__":
    unittest.main()
