"""Points [13] and [14]: boxes, rights, and what may be asked of them."""

import unittest

from tests.halls import ALL, ANN, BOB, CID, DAN, EVE, on_all, one_house, refused, send, state, three
from tests.samples import words

CAT, DOT = ("cat", "elm"), ("dot", "elm")


def boxes_hall():
    """Ann has pieces 0 and 1, cat has piece 2; dot lives there, too."""
    hall = one_house("ann", "cat", "dot")
    send(hall, DOT, ANN, about="one", text="tea")
    send(hall, DOT, ANN, about="two", text="hall")
    send(hall, DOT, CAT, about="three")
    return hall


class ByTheOwner(unittest.TestCase):

    def test_file(self):
        hall = boxes_hall()
        self.assertIsNone(hall.file(ANN, 0, "old"))
        self.assertEqual(hall.boxes(ANN), [(ANN, "in"), (ANN, "old")])
        self.assertEqual(hall.pieces(ANN, ANN, "old"), [(0, 0, 0, ())])
        self.assertEqual(hall.pieces(ANN, ANN, "in"), [(1, 1, 0, ())])
        hall.file(ANN, 1, "old")
        hall.file(ANN, 1, "old")
        self.assertEqual([row[0] for row in hall.pieces(ANN, ANN, "old")], [0, 1])
        self.assertEqual(state(hall, 1), ("brought", ((1, "old", "there"),), ()))
        self.assertEqual(hall.boxes(ANN), [(ANN, "in"), (ANN, "old")])
        hall.file(ANN, 0, "in")
        self.assertEqual([row[0] for row in hall.pieces(ANN, ANN, "in")], [0])

    def test_mark(self):
        hall = boxes_hall()
        self.assertIsNone(hall.mark(ANN, 0, "hot"))
        hall.mark(ANN, 0, "b")
        hall.mark(ANN, 0, "a", on=True)
        hall.mark(ANN, 0, "a")
        self.assertEqual(hall.pieces(ANN, ANN, "in")[0], (0, 0, 0, ("a", "b", "hot")))
        hall.mark(ANN, 0, "b", on=False)
        hall.mark(ANN, 0, "never", on=False)
        self.assertEqual(hall.pieces(ANN, ANN, "in"), [(0, 0, 0, ("a", "hot")), (1, 1, 0, ())])

    def test_marks_by_rules_may_be_taken_off(self):
        hall = one_house("ann")
        hall.rule(ANN, on_all(("mark", "hot"), ("mark", "new")))
        send(hall, ANN, ANN)
        hall.mark(ANN, 0, "new", on=False)
        self.assertEqual(hall.pieces(ANN, ANN, "in"), [(0, 0, 0, ("hot",))])

    def test_drop(self):
        hall = boxes_hall()
        hall.file(ANN, 0, "old")
        self.assertIsNone(hall.drop(ANN, 0))
        self.assertEqual((hall.boxes(ANN), hall.pieces(ANN, ANN, "old")), ([(ANN, "in")], []))
        self.assertEqual(state(hall, 0), ("brought", ((0, "old", "gone"),), ()))
        for ask in (lambda: hall.drop(ANN, 0), lambda: hall.file(ANN, 0, "in"), lambda: hall.mark(ANN, 0, "x"), lambda: hall.read(ANN, 0)):
            self.assertEqual(refused(ask), ("NoPiece", 0))
        self.assertEqual(hall.find(ANN, ALL), [1])

    def test_nobody_and_no_piece(self):
        hall = boxes_hall()
        for number in (3, 99, -1, 2):
            for ask in (lambda: hall.drop(ANN, number), lambda: hall.file(ANN, number, "in"), lambda: hall.mark(ANN, number, "x"),
                        lambda: hall.read(ANN, number)):
                self.assertEqual(refused(ask), ("NoPiece", number))
        for who in (("zed", "elm"), ("ann", "oak"), ("post", "elm")):
            for ask in (lambda: hall.drop(who, 0), lambda: hall.file(who, 0, "in"), lambda: hall.mark(who, 0, "x"), lambda: hall.read(who, 0),
                        lambda: hall.share(who, "in", ANN, ()), lambda: hall.boxes(who), lambda: hall.find(who, ALL),
                        lambda: hall.pieces(who, ANN, "in"), lambda: hall.pieces(ANN, who, "in"), lambda: hall.threads(who, ANN, "in"),
                        lambda: hall.threads(ANN, who, "in"), lambda: hall.rights(who, "in"), lambda: hall.rules_of(who),
                        lambda: hall.rule(who, ()), lambda: hall.term(who, "in", 1), lambda: hall.desk(who)):
                self.assertEqual(refused(ask), ("NoOne", who))
        self.assertEqual(refused(hall.pieces, ("zed", "elm"), ("yan", "elm"), "in"), ("NoOne", ("zed", "elm")))
        self.assertEqual(refused(hall.threads, ("zed", "elm"), ("yan", "elm"), "in"), ("NoOne", ("zed", "elm")))


class ByOthers(unittest.TestCase):

    def test_without_rights(self):
        hall = boxes_hall()
        for ask in (lambda: hall.drop(CAT, 0), lambda: hall.file(CAT, 0, "in"), lambda: hall.mark(CAT, 0, "x"), lambda: hall.read(CAT, 0)):
            self.assertEqual(refused(ask), ("NoPiece", 0))
        self.assertEqual(refused(hall.pieces, CAT, ANN, "in"), ("NoRight", "see"))
        self.assertEqual(refused(hall.threads, CAT, ANN, "in"), ("NoRight", "see"))
        self.assertEqual((hall.boxes(CAT), hall.find(CAT, ALL)), ([(CAT, "in")], [2]))

    def test_see(self):
        hall = boxes_hall()
        self.assertIsNone(hall.share(ANN, "in", CAT, ("see",)))
        self.assertEqual(hall.pieces(CAT, ANN, "in"), hall.pieces(ANN, ANN, "in"))
        self.assertEqual(hall.threads(CAT, ANN, "in"), [(0, 0), (1, 0)])
        self.assertEqual(hall.read(CAT, 1), hall.read(ANN, 1))
        self.assertEqual(hall.find(CAT, ALL), [0, 1, 2])
        self.assertEqual(hall.boxes(CAT), [(ANN, "in"), (CAT, "in")])
        self.assertEqual(refused(hall.drop, CAT, 0), ("NoRight", "drop"))
        self.assertEqual(refused(hall.mark, CAT, 0, "x"), ("NoRight", "mark"))
        self.assertEqual(refused(hall.file, CAT, 0, "in"), ("NoRight", "file"))
        self.assertEqual(refused(hall.pieces, CAT, ANN, "old"), ("NoRight", "see"))
        self.assertEqual(refused(hall.pieces, DOT, ANN, "in"), ("NoRight", "see"))
        hall.file(ANN, 0, "old")
        self.assertEqual((refused(hall.read, CAT, 0), hall.find(CAT, ALL)), (("NoPiece", 0), [1, 2]))

    def test_other_rights_without_see(self):
        hall = boxes_hall()
        hall.share(ANN, "in", CAT, ("file", "mark", "drop"))
        for ask in (lambda: hall.drop(CAT, 0), lambda: hall.file(CAT, 0, "in"), lambda: hall.mark(CAT, 0, "x"), lambda: hall.read(CAT, 0)):
            self.assertEqual(refused(ask), ("NoPiece", 0))
        self.assertEqual(hall.boxes(CAT), [(CAT, "in")])

    def test_mark_and_drop(self):
        hall = boxes_hall()
        hall.share(ANN, "in", CAT, ("drop", "mark", "see"))
        hall.mark(CAT, 0, "hot")
        self.assertEqual(hall.pieces(ANN, ANN, "in")[0], (0, 0, 0, ("hot",)))
        hall.drop(CAT, 1)
        self.assertEqual(hall.find(ANN, ALL), [0])

    def test_file_needs_the_right_on_both(self):
        hall = boxes_hall()
        hall.share(ANN, "in", CAT, ("see", "file"))
        self.assertEqual(refused(hall.file, CAT, 0, "old"), ("NoRight", "file"))
        # A piece may be filed to where it is.
        self.assertIsNone(refused(hall.file, CAT, 0, "in"))
        hall.share(ANN, "old", CAT, ("file",))
        hall.file(CAT, 0, "old")
        self.assertEqual(hall.pieces(ANN, ANN, "old"), [(0, 0, 0, ())])
        self.assertEqual(refused(hall.file, CAT, 0, "in"), ("NoPiece", 0))
        hall.share(ANN, "old", CAT, ("see",))
        self.assertEqual(refused(hall.file, CAT, 0, "in"), ("NoRight", "file"))
        # The other's own box of that NAME is no matter.
        self.assertEqual(hall.pieces(CAT, CAT, "in"), [(2, 2, 0, ())])

    def test_rights_set_anew_and_taken_back(self):
        hall = boxes_hall()
        hall.share(ANN, "in", CAT, ("see", "mark"))
        hall.share(ANN, "in", CAT, ("see", "drop"))
        self.assertEqual(refused(hall.mark, CAT, 0, "x"), ("NoRight", "mark"))
        self.assertEqual(hall.rights(ANN, "in"), [(CAT, ("see", "drop"))])
        hall.share(ANN, "in", CAT, ())
        self.assertEqual(refused(hall.drop, CAT, 0), ("NoPiece", 0))
        self.assertEqual((hall.rights(ANN, "in"), hall.boxes(CAT)), ([], [(CAT, "in")]))

    def test_share_refused(self):
        hall = three()
        for other in (ANN, CID, ("zed", "elm"), ("ann", "nowhere"), ("post", "elm")):
            self.assertEqual(refused(hall.share, ANN, "in", other, ("see",)), ("NoOne", other))
        self.assertIsNone(refused(hall.share, ANN, "in", BOB, ("see",)))
        hall.shut("elm")
        self.assertEqual(refused(hall.share, ANN, "in", CID, ("see",)), ("Shut", "elm"))
        self.assertEqual(refused(hall.share, ("zed", "elm"), "in", CID, ("see",)), ("NoOne", ("zed", "elm")))
        self.assertIsNone(refused(hall.share, CID, "in", DAN, ("see",)))

    def test_rights_told(self):
        hall = boxes_hall()
        hall.share(ANN, "new", DOT, ("drop", "mark", "file", "see"))
        hall.share(ANN, "new", CAT, ["mark", "see"])
        hall.share(CAT, "new", ANN, ("see",))
        self.assertEqual(hall.rights(ANN, "new"), [(CAT, ("see", "mark")), (DOT, ("see", "file", "mark", "drop"))])
        self.assertEqual((hall.rights(ANN, "in"), hall.rights(DOT, "new")), ([], []))

    def test_boxes_without_pieces(self):
        hall = boxes_hall()
        hall.share(ANN, "new", CAT, ("see",))
        hall.share(ANN, "old", CAT, ("file", "mark", "drop"))
        self.assertEqual(hall.boxes(CAT), [(ANN, "new"), (CAT, "in")])
        self.assertEqual(hall.boxes(ANN), [(ANN, "in")])
        self.assertEqual((hall.pieces(CAT, ANN, "new"), hall.threads(CAT, ANN, "new")), ([], []))
        self.assertEqual((hall.boxes(DOT), hall.pieces(DOT, DOT, "none")), ([(DOT, "in")], []))

    def test_no_piece_ahead_of_no_right(self):
        hall = boxes_hall()
        hall.share(ANN, "in", CAT, ("see",))
        hall.drop(ANN, 0)
        for ask in (lambda: hall.drop(CAT, 0), lambda: hall.file(CAT, 0, "in"), lambda: hall.mark(CAT, 0, "x")):
            self.assertEqual(refused(ask), ("NoPiece", 0))

    def test_shut_ahead_of_no_piece(self):
        hall = three()
        send(hall, ANN, BOB)
        hall.shut("elm")
        for number in (0, 9):
            for ask in (lambda: hall.drop(BOB, number), lambda: hall.file(BOB, number, "in"), lambda: hall.mark(BOB, number, "x")):
                self.assertEqual(refused(ask), ("Shut", "elm"))
        for ask in (lambda: hall.rule(BOB, ()), lambda: hall.term(BOB, "in", 3), lambda: hall.desk(BOB), lambda: hall.share(BOB, "in", ANN, ())):
            self.assertEqual(refused(ask), ("Shut", "elm"))

    def test_asks_in_a_shut_house(self):
        hall = three()
        hall.rule(BOB, on_all(("file", "old")))
        send(hall, ANN, BOB)
        hall.share(BOB, "old", ANN, ("see",))

        def asked():
            return (hall.boxes(BOB), hall.pieces(ANN, BOB, "old"), hall.read(BOB, 0), hall.threads(BOB, BOB, "old"), hall.find(ANN, ALL),
                    hall.rules_of(BOB), hall.rights(BOB, "old"), refused(hall.pieces, ANN, BOB, "in"), refused(hall.read, ANN, 7),
                    refused(hall.find, ("zed", "elm"), ALL))

        ahead = asked()
        hall.shut("elm")
        self.assertEqual(asked(), ahead)
        self.assertEqual(ahead[-3:], (("NoRight", "see"), ("NoPiece", 7), ("NoOne", ("zed", "elm"))))


class Threads(unittest.TestCase):

    def test_a_thread(self):
        hall = one_house("ann", "bob")
        # 0 <- 1 <- 3, 0 <- 2, and 4 by itself.
        for answers in (None, 0, 0, 1, None):
            send(hall, BOB, ANN, answers=answers)
        self.assertEqual(hall.threads(ANN, ANN, "in"), [(0, 0), (1, 1), (3, 2), (2, 1), (4, 0)])

    def test_the_last_in_line_that_has_a_piece_there(self):
        hall = one_house("ann", "bob")
        for answers in (None, 0, 1, 2):
            send(hall, BOB, ANN, answers=answers)
        hall.file(ANN, 2, "old")
        self.assertEqual(hall.threads(ANN, ANN, "in"), [(0, 0), (1, 1), (3, 2)])
        hall.drop(ANN, 1)
        self.assertEqual(hall.threads(ANN, ANN, "in"), [(0, 0), (3, 1)])
        hall.drop(ANN, 0)
        self.assertEqual(hall.threads(ANN, ANN, "in"), [(3, 0)])
        self.assertEqual(hall.threads(ANN, ANN, "old"), [(2, 0)])

    def test_the_greatest_of_several(self):
        hall = one_house("ann", "bob")
        hall.rule(ANN, on_all(("file", "in"), ("file", "old"), ("file", "new")))
        send(hall, BOB, ANN)
        send(hall, BOB, ANN, answers=0)
        # Letter 0 has pieces 0, 1, 2, letter 1 has 3, 4, 5.
        hall.file(ANN, 2, "in")
        self.assertEqual(hall.threads(ANN, ANN, "in"), [(0, 0), (2, 0), (3, 1)])
        hall.file(ANN, 4, "in")
        self.assertEqual(hall.threads(ANN, ANN, "in"), [(0, 0), (2, 0), (3, 1), (4, 1)])
        hall.file(ANN, 2, "new")
        self.assertEqual(hall.threads(ANN, ANN, "in"), [(0, 0), (3, 1), (4, 1)])

    def test_an_answer_may_have_the_lesser_number_of_a_piece(self):
        # Letter 0 comes to ann behind the letter that answers it.
        hall = three()
        send(hall, EVE, BOB, ANN)
        hall.cut("elm", "oak")
        send(hall, ANN, ANN, answers=0)
        self.assertEqual(hall.threads(ANN, ANN, "in"), [(0, 0)])
        hall.tie("elm", "oak")
        hall.tick(many=20)
        self.assertEqual(hall.pieces(ANN, ANN, "in"), [(0, 1, 0, ()), (2, 0, 4, ())])
        self.assertEqual(hall.threads(ANN, ANN, "in"), [(2, 0), (0, 1)])

    def test_beyond_twenty_in_line(self):
        hall = one_house("ann", "bob")
        for number in range(23):
            send(hall, BOB, ANN, answers=number - 1 if number else None)
        self.assertEqual(hall.threads(ANN, ANN, "in"), [(number, number) for number in range(23)])
        for number in range(1, 20):
            hall.drop(ANN, number)
        # Letters 20, 21 and 22 stand in a row; of letter 20 the line goes back to 0.
        self.assertEqual(hall.threads(ANN, ANN, "in"), [(0, 0), (20, 1), (21, 2), (22, 3)])
        hall.drop(ANN, 20)
        self.assertEqual(hall.threads(ANN, ANN, "in"), [(0, 0), (21, 0), (22, 1)])

    def test_deep_threads(self):
        hall = one_house("ann", "bob")
        for number in range(1200):
            send(hall, BOB, ANN, answers=number - 1 if number else None)
        self.assertEqual(hall.threads(ANN, ANN, "in")[-1], (1199, 1199))


class Find(unittest.TestCase):

    def hall(self):
        hall = one_house("ann", "bob")
        hall.rule(ANN, ((("word", "hall"), (("file", "old"), ("mark", "hot"))), (("word", "both"), (("file", "in"), ("file", "old")))))
        send(hall, BOB, ANN, about="Tea", text="at five")
        hall.tick(many=2)
        send(hall, BOB, ANN, BOB, about="the Hall", text="x" * 50)
        hall.tick(many=3)
        send(hall, ANN, ANN, about="both", text="tea")
        hall.send(BOB, (ANN, ("zed", "elm")), "parts", ("parts", (((), words("deep one")), ((("about", "no"),), words("")))))
        hall.mark(ANN, 0, "seen")
        return hall

    def test_by_each_query(self):
        hall = self.hall()
        # Pieces: 0 Tea, 1 hall (old), 2 bob's, 3 and 4 both (in, old), 5 parts, 6 bob's telling.
        for query, told in ((("from", BOB), [0, 1, 5]), (("from", ANN), [3, 4]), (("to", ANN), [0, 1, 3, 4, 5]), (("to", BOB), [1]),
                            (("word", "tea"), [0, 3, 4]), (("word", "deep"), [5]), (("word", "no"), []), (("word", "xxxxxxxxxxxx"), [1]),
                            (("about", "Tea"), [0]), (("about", "a"), [0, 1, 5]), (("longer", 49), [1]), (("longer", 50), []),
                            (("auto",), []), (("marked", "hot"), [1]), (("marked", "seen"), [0]), (("marked", "no"), []),
                            (("box", "in"), [0, 3, 5]), (("box", "old"), [1, 4]), (("box", "none"), []), (("since", 0), [0, 1, 3, 4, 5]),
                            (("since", 2), [1, 3, 4, 5]), (("since", 3), [3, 4, 5]), (("since", 5), [3, 4, 5]), (("since", 6), []),
                            (("not", ("since", 2)), [0]), (("both", ("box", "old"), ("word", "tea")), [4]),
                            (("any", ("marked", "hot"), ("marked", "seen")), [0, 1]), (ALL, [0, 1, 3, 4, 5]),
                            (("not", ("any", ("box", "in"), ("not", ("word", "hall")))), [1])):
            self.assertEqual(hall.find(ANN, query), told, query)
        self.assertEqual(hall.find(BOB, ("auto",)), [6])
        self.assertEqual(hall.find(["bob", "elm"], ["from", ["bob", "elm"]]), [2])

    def test_only_what_one_may_see(self):
        hall = self.hall()
        hall.share(ANN, "old", BOB, ("see",))
        self.assertEqual(hall.find(BOB, ALL), [1, 2, 4, 6])
        self.assertEqual(hall.find(BOB, ("box", "in")), [2, 6])
        hall.drop(ANN, 4)
        hall.file(ANN, 3, "old")
        self.assertEqual(hall.find(BOB, ALL), [1, 2, 3, 6])
        hall.share(ANN, "old", BOB, ("file", "mark", "drop"))
        self.assertEqual(hall.find(BOB, ALL), [2, 6])


if __name__ == "__main__":
    unittest.main()
