"""A hall at the bounds of [6] and [9] still answers."""

import unittest

from letterhall.codes import WAYS
from letterhall.hall import Hall
from letterhall.letters import is_body, read_letter
from letterhall.plans import is_plan
from letterhall.rules import is_rules
from tests.halls import told
from tests.samples import part, parts

NAMES = ("elm", "oak", "ash", "fir", "yew")
FOLK = ("ann", "bob", "cid", "dan")
EVERYBODY = [(name, home) for home in NAMES for name in FOLK]
BIG = parts(*[((("to", "x" * 300),), parts(*[((), ("words", tuple(97 + (k * j) % 26 for k in range(300)))) for j in range(4)]))] * 4)
MARKED = ("words", tuple(9000 + k for k in range(300)))


def plan():
    """Each house has lists of its own people, of the same list next door, and of all lists of its own."""
    houses = []
    for at, home in enumerate(NAMES):
        onward = NAMES[(at + 1) % 5]
        lists = (("folk", tuple((name, home) for name in FOLK)), ("round", (("folk", home), ("round", onward), ("zed", home))),
                 ("both", (("folk", home), ("folk", onward), ("both", onward), ("round", home))))
        houses.append((home, FOLK, lists, WAYS, 9000))
    pairs = [(0, 1), (1, 2), (2, 3), (3, 4), (4, 0), (0, 2), (1, 3), (2, 4)]
    return (tuple(houses), tuple((NAMES[one], NAMES[other], 1 + (one + other) % 4) for one, other in pairs))


class Bounds(unittest.TestCase):

    def test_three_hundred_deeds_and_four_hundred_ticks(self):
        self.assertTrue(is_plan(plan()) and is_body(BIG))
        hall = Hall(plan())
        for at, who in enumerate(EVERYBODY):
            rules = ((("word", "tea"), (("file", "tea"), ("mark", "hot"), ("answer", "thanks"))),
                     (("both", ("from", EVERYBODY[at - 3]), ("not", ("auto",))), (("on", EVERYBODY[at - 7]), ("file", "in"))))
            self.assertTrue(is_rules(rules))
            hall.rule(who, rules)
        for at in range(100):
            who = EVERYBODY[at % 20]
            to = (("both", NAMES[at % 5]), EVERYBODY[(at * 7) % 20], ("round", NAMES[(at + 2) % 5]))
            hall.send(who, to, "tea " + "x" * 36, (BIG, MARKED, part("tea\nfor two")[1])[at % 3], answers=at - 1 if at else None)
            hall.tick(many=4)
        for at in range(20):
            hall.desk(EVERYBODY[at])
            hall.term(EVERYBODY[at], "in", 400)
        for at in range(20):
            hall.away(at + 1, ("mark", hall.desk_pieces(at + 1, "tea")[0][0], "cold", True))
            hall.meet(at + 1)
        self.assertEqual((len(hall.log()), hall.now()), (300, 400))
        self.assertGreater(hall.letters(), 300)
        self.assertEqual(len(hall.find(EVERYBODY[0], ("both", ("word", "tea"), ("not", ("auto",))))) > 30, True)
        for who in EVERYBODY:
            for piece in hall.find(who, ("both", ("longer", 299), ("since", 300)))[:5]:
                self.assertIn(read_letter(hall.read(who, piece))[1], (BIG, MARKED))
        self.assertTrue(hall.twin() == hall)

    def test_parts_within_parts_of_the_most_signs(self):
        # Its own house asks for no bound.
        huge = parts(*[((), parts(*[((), MARKED)] * 4))] * 4)
        self.assertTrue(is_body(huge))
        hall = Hall(plan())
        hall.send(EVERYBODY[0], (EVERYBODY[1], EVERYBODY[5]), "x", huge)
        self.assertEqual([row[2][0] for row in hall.copies(0)], ["brought", "failed"])
        self.assertEqual(read_letter(hall.read(EVERYBODY[1], 0))[1], huge)
        self.assertEqual(hall.copies(0)[1][2], ("failed", "long"))
        told(hall)


if __name__ == "__main__":
    unittest.main()
