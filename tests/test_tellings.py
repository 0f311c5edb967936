"""Point [12]: tellings and answers."""

import unittest

from letterhall.hall import Hall
from tests.halls import ALL, ANN, BOB, CID, DAN, EVE, head, house, on_all, one_house, send, state, states, three
from tests.samples import signs, words


class Tellings(unittest.TestCase):

    def test_heads_and_body(self):
        hall = three()
        send(hall, BOB, ANN)
        send(hall, ANN, ("zed", "elm"), about="Tea", answers=0)
        self.assertEqual(hall.letter(2), ((("from", "post@elm"), ("to", "ann@elm"), ("about", "not brought nobody"), ("number", "2"),
                                           ("line", "0 1"), ("auto", "yes")), words("zed@elm")))
        self.assertEqual(states(hall, 2), [(ANN, ("brought", ((1, "in", "there"),), ()))])

    def test_of_each_word(self):
        plan = ((house("elm", "ann bob", (("all", (("all", "elm"),)),)), house("oak", "cid", ways=("plain",)),
                 house("ash", "eve", most=400), house("fir", "dan")), (("elm", "oak", 1), ("ash", "elm", 1)))
        hall = Hall(plan)
        big = ("words", (97,) * 300 + ())
        sent = [(("zed", "elm"), words("x"), "nobody"), (("dan", "fir"), words("x"), "noway"), (("cid", "oak"), ("words", (0,)), "code"),
                (("eve", "ash"), ("parts", (((), big), ((), big))), "long"), (("all", "elm"), words("x"), "ring")]
        for address, body, word in sent:
            number = hall.send(ANN, (address,), "", body)
            self.assertEqual(head(hall, number + 1, "about"), "not brought " + word)
            self.assertEqual(hall.letter(number + 1)[1], words("@".join(address)))
            self.assertEqual(head(hall, number + 1, "line"), str(number))
        self.assertEqual(hall.letters(), 10)

    def test_the_copys_address_not_the_letters(self):
        hall = three(elm=(("all", (("zed", "elm"), ("yan", "elm"))),))
        send(hall, ANN, ("all", "elm"))
        self.assertEqual([hall.letter(number)[1] for number in (1, 2)], [words("zed@elm"), words("yan@elm")])
        self.assertEqual([head(hall, number, "line") for number in (1, 2)], ["0", "0"])

    def test_that_house_tells(self):
        hall = three(oak=(("all", (("zed", "ash"),)),))
        send(hall, ANN, ("all", "oak"), ("zed", "oak"))
        hall.tick(many=4)
        self.assertEqual([(head(hall, number, "from"), hall.letter(number)[1]) for number in (1, 2)],
                         [("post@oak", words("zed@oak")), ("post@ash", words("zed@ash"))])
        hall.tick(many=5)
        self.assertEqual([row[1] for row in hall.pieces(ANN, ANN, "in")], [1, 2])

    def test_line_of_the_last_twenty(self):
        hall = three()
        for number in range(21):
            send(hall, ANN, BOB, answers=number - 1 if number else None)
        send(hall, ANN, ("zed", "elm"), answers=20)
        self.assertEqual(head(hall, 22, "line"), " ".join(str(one) for one in range(2, 22)))

    def test_none_of_a_letter_with_auto(self):
        hall = Hall(((house("elm", "ann"), house("oak", "cid")), (("elm", "oak", 1),)))
        send(hall, ANN, ("zed", "oak"))
        hall.tick(many=2)
        hall.cut("elm", "oak")
        hall.tick(many=30)
        self.assertEqual(states(hall, 1), [(ANN, ("failed", "late"))])
        self.assertEqual(hall.letters(), 2)

    def test_a_telling_that_is_sent_on_to_nobody(self):
        hall = three()
        hall.rule(ANN, on_all(("on", ("zed", "elm")), ("on", ("yan", "nowhere")), ("on", ANN)))
        send(hall, ANN, ("xan", "elm"))
        self.assertEqual(states(hall, 1)[1:], [(("zed", "elm"), ("failed", "nobody")), (("yan", "nowhere"), ("failed", "noway")), (ANN, ("failed", "ring"))])
        self.assertEqual(hall.letters(), 2)

    def test_by_rules_it_is_as_any_letter(self):
        hall = three()
        hall.rule(ANN, ((("both", ("auto",), ("from", ("post", "elm"))), (("file", "told"), ("mark", "bad"))),))
        send(hall, ANN, ("zed", "elm"))
        self.assertEqual(hall.pieces(ANN, ANN, "told"), [(0, 1, 0, ("bad",))])

    def test_each_failed_copy_one_telling(self):
        hall = three()
        send(hall, ANN, ("a", "elm"), ("b", "elm"), ("c", "nowhere"), ("d", "oak"))
        hall.tick(many=9)
        self.assertEqual(hall.letters(), 5)


class Answers(unittest.TestCase):

    def test_heads_and_body(self):
        hall = three()
        send(hall, ANN, ANN)
        hall.rule(BOB, on_all(("answer", "Gone = away")))
        send(hall, ANN, BOB, about="Tea", answers=0)
        self.assertEqual(hall.letter(2), ((("from", "bob@elm"), ("to", "ann@elm"), ("about", "re Tea"), ("number", "2"), ("line", "0 1"), ("auto", "yes")),
                                          words("Gone = away")))
        self.assertEqual(states(hall, 2), [(ANN, ("brought", ((2, "in", "there"),), ()))])

    def test_about_is_cut_to_forty(self):
        for many in (0, 36, 37, 38, 40):
            hall = three()
            hall.rule(BOB, on_all(("answer", "x")))
            send(hall, ANN, BOB, about="y" * many)
            self.assertEqual(head(hall, 1, "about"), ("re " + "y" * many)[:40])
            self.assertEqual(len(head(hall, 1, "about")), min(40, many + 3))

    def test_once_for_each_sender_number_and_text(self):
        hall = one_house("ann", "bob", "cid", "dan")
        cid, dan = ("cid", "elm"), ("dan", "elm")
        hall.rule(BOB, on_all(("answer", "x"), ("answer", "y")))

        def answered(sender, *to):
            ahead = hall.letters()
            send(hall, sender, *to)
            return [(head(hall, number, "from"), "".join(chr(sign) for sign in hall.letter(number)[1][1])) for number in range(ahead + 1, hall.letters())]

        self.assertEqual(answered(ANN, BOB), [("bob@elm", "x"), ("bob@elm", "y")])
        self.assertEqual(answered(ANN, BOB), [])
        self.assertEqual(answered(cid, BOB), [("bob@elm", "x"), ("bob@elm", "y")])
        hall.rule(BOB, on_all(("answer", "x"), ("answer", "z")))
        self.assertEqual(answered(ANN, BOB), [("bob@elm", "z")])
        # By another number it is another answer; rules that were set anew are no matter.
        hall.rule(BOB, ((("auto",), (("stop",),)), (ALL, (("answer", "x"),))))
        self.assertEqual(answered(ANN, BOB), [("bob@elm", "x")])
        hall.rule(BOB, ())
        self.assertEqual(answered(ANN, BOB), [])
        hall.rule(BOB, on_all(("answer", "x"), ("answer", "y"), ("answer", "z")))
        self.assertEqual(answered(ANN, BOB), [])
        self.assertEqual(answered(cid, BOB), [("bob@elm", "z")])
        hall.rule(dan, on_all(("answer", "x")))
        self.assertEqual(answered(ANN, dan, BOB), [("dan@elm", "x")])

    def test_nothing_with_auto_is_answered(self):
        hall = one_house("ann", "bob")
        hall.rule(ANN, on_all(("answer", "a")))
        hall.rule(BOB, on_all(("answer", "b")))
        send(hall, ANN, BOB)
        self.assertEqual((hall.letters(), head(hall, 1, "from")), (2, "bob@elm"))
        send(hall, ANN, ("zed", "elm"))
        self.assertEqual(hall.letters(), 4)

    def test_oneself(self):
        hall = one_house("ann")
        hall.rule(ANN, on_all(("answer", "a")))
        send(hall, ANN, ANN)
        self.assertEqual((hall.letters(), states(hall, 1)), (2, [(ANN, ("brought", ((1, "in", "there"),), ()))]))

    def test_behind_pieces_and_ons(self):
        hall = one_house("ann", "bob")
        hall.rule(BOB, on_all(("answer", "b"), ("on", ("zed", "elm")), ("file", "in")))
        send(hall, ANN, BOB)
        # Piece 0 is bob's, letter 1 tells of the copy sent on, letter 2 is the answer.
        self.assertEqual([(head(hall, number, "from"), hall.copies(number)[0][0]) for number in (1, 2)], [("post@elm", 2), ("bob@elm", 3)])
        self.assertEqual([row[1] for row in hall.pieces(ANN, ANN, "in")], [1, 2])
        self.assertEqual([row[0] for row in hall.pieces(BOB, BOB, "in")], [0])

    def test_dropped_and_answered(self):
        hall = one_house("ann", "bob")
        hall.rule(BOB, on_all(("answer", "b"), ("drop",)))
        send(hall, ANN, BOB)
        self.assertEqual((hall.letters(), states(hall, 0)), (2, [(BOB, ("brought", (), ()))]))

    def test_from_the_persons_house_right_then(self):
        hall = three()
        hall.rule(CID, on_all(("answer", "back soon")))
        send(hall, ANN, CID)
        hall.tick(many=3)
        self.assertEqual(hall.trail(1), [(3, "oak", "came"), (3, "oak", "queue"), (3, "oak", "left")])
        hall.tick(many=2)
        self.assertEqual(state(hall, 1)[0], "brought")

    def test_to_who_sent_the_letter_not_who_sent_it_on(self):
        hall = three()
        hall.rule(BOB, on_all(("on", CID)))
        hall.rule(CID, on_all(("answer", "x")))
        send(hall, ANN, BOB)
        hall.tick(many=3)
        self.assertEqual((head(hall, 1, "to"), head(hall, 1, "from")), ("ann@elm", "cid@oak"))

    def test_ticks_with_answers_of_many(self):
        hall = three(elm=(("all", (CID, DAN, EVE)),))
        for who in (CID, DAN, EVE):
            hall.rule(who, on_all(("answer", who[0]), ("file", "in")))
        send(hall, ANN, ("all", "elm"))
        hall.tick(many=20)
        self.assertEqual(sorted(hall.letter(number)[1] for number in range(1, 4)), [("words", signs(name)) for name in ("cid", "dan", "eve")])
        self.assertEqual((hall.letters(), len(hall.pieces(ANN, ANN, "in"))), (4, 3))


if __name__ == "__main__":
    unittest.main()
