"""Point [20]: papers, and what they show."""

import unittest

from letterhall.hall import Hall
from letterhall.letters import letter_text
from letterhall.papers import desk_paper, fate_paper, hall_paper, shows_desk, shows_fate, shows_hall, shows_way, way_paper
from tests.halls import ALL, ANN, BOB, CID, DAN, EVE, NAMES, Walk, house, on_all, one_house, people_in, refused, send, three, told
from tests.samples import kinds, odd_things, words
from tests.variants import variants

BOTH, RING = ("both", "elm"), ("ring", "elm")


def spread_hall():
    """Letter 0 is spread, sent on and answered; 2 is a telling that nobody is zed."""
    hall = three(elm=(("both", (BOB, CID)), ("ring", (RING, ("zed", "elm")))))
    hall.rule(BOB, on_all(("on", EVE), ("file", "old"), ("file", "new"), ("answer", "thanks")))
    send(hall, ANN, BOTH, DAN)
    return hall


def walked(seed, many):
    walk = Walk(seed)
    for turn in range(many):
        walk.step()
    return walk.hall


def copies_in(hall):
    """All copies: the number of each with its letter's number and its state."""
    return {copy: (number, state) for number in range(hall.letters()) for copy, address, state in hall.copies(number)}


class FatePaper(unittest.TestCase):

    def test_spread_and_sent_on(self):
        hall = spread_hall()
        self.assertEqual(kinds(fate_paper(hall, 0)), kinds([
            (0, None, BOTH, ("spread", (1, 4))),
            (1, 0, BOB, ("brought", ((0, "old", "there"), (1, "new", "there")), (2,))),
            (2, 1, EVE, ("queue", "elm", "oak", 0, 0)),
            (4, 0, CID, ("queue", "elm", "oak", 0, 0)),
            (5, None, DAN, ("queue", "elm", "oak", 0, 0))]))

    def test_an_answer_and_a_telling_are_sent(self):
        hall = spread_hall()
        self.assertEqual(kinds(fate_paper(hall, 1)), kinds([(3, None, ANN, ("brought", ((2, "in", "there"),), ()))]))
        send(hall, CID, ("zed", "oak"))
        self.assertEqual(kinds(fate_paper(hall, 2)), kinds([(6, None, ("zed", "oak"), ("failed", "nobody"))]))
        self.assertEqual(kinds(fate_paper(hall, 3)), kinds([(7, None, CID, ("brought", ((3, "in", "there"),), ()))]))

    def test_an_answer_that_is_sent_on(self):
        hall = spread_hall()
        hall.rule(ANN, on_all(("on", CID)))
        send(hall, CID, BOB)
        hall.tick(many=9)
        answers = [number for number in range(hall.letters()) if ("from", "bob@elm") in hall.letter(number)[0]]
        hall.rule(CID, on_all(("on", ANN)))
        send(hall, EVE, BOB)
        hall.tick(many=9)
        self.assertEqual(len(answers), 2)
        for number in answers:
            self.assertIsNone(fate_paper(hall, number)[0][1])
        send(hall, BOB, ANN)
        last = hall.letters() - 1
        rows = fate_paper(hall, last)
        self.assertEqual([(row[1], row[2]) for row in rows], [(None, ANN), (rows[0][0], CID)])

    def test_rings(self):
        hall = spread_hall()
        number = send(hall, ANN, RING)
        first = fate_paper(hall, number)[0][0]
        rows = [(row[1], row[2], row[3][:2]) for row in fate_paper(hall, number)]
        self.assertEqual(rows[0][0], None)
        self.assertEqual(rows[1:], [(first, RING, ("failed", "ring")), (first, ("zed", "elm"), ("failed", "nobody"))])

    def test_come_again(self):
        hall = spread_hall()
        hall.rule(BOB, ())
        first = send(hall, ANN, BOTH, BOB)
        copy = fate_paper(hall, first)[0][0]
        self.assertEqual([(row[1], row[2], row[3][0]) for row in fate_paper(hall, first)],
                         [(None, BOTH, "spread"), (copy, BOB, "brought"), (copy, CID, "queue"), (None, BOB, "again")])

    def test_states_as_copies_tells_them(self):
        for seed in range(400, 425):
            hall = walked(seed, 60)
            for number in range(hall.letters()):
                rows = fate_paper(hall, number)
                self.assertIsInstance(rows, list)
                self.assertEqual(kinds([(copy, address, state) for copy, begun, address, state in rows]), kinds(hall.copies(number)))

    def test_begun_as_passed_tells(self):
        """Who begun a copy is the last in its passed, and names it among its own."""
        seen = {"spread": 0, "brought": 0, None: 0}
        for seed in range(425, 450):
            hall = walked(seed, 60)
            for number in range(hall.letters()):
                rows = {row[0]: row for row in fate_paper(hall, number)}
                for copy, begun, address, state in rows.values():
                    if begun is None:
                        self.assertEqual(hall.passed(copy), ())
                        seen[None] += 1
                    else:
                        self.assertEqual(hall.passed(copy), hall.passed(begun) + (rows[begun][2],))
                        self.assertIn(copy, rows[begun][3][-1])
                        seen[rows[begun][3][0]] += 1
        self.assertGreater(min(seen.values()), 30)

    def test_refused(self):
        hall = spread_hall()
        for number in (2, 99, -1):
            self.assertEqual(refused(fate_paper, hall, number), ("NoLetter", number))
            for thing in ([], None, fate_paper(hall, 0)):
                self.assertEqual(refused(shows_fate, hall, number, thing), ("NoLetter", number))


class HallPaper(unittest.TestCase):

    def test_all_fate_papers(self):
        self.assertEqual(kinds(hall_paper(three())), kinds([]))
        hall = spread_hall()
        self.assertEqual(kinds(hall_paper(hall)), kinds([fate_paper(hall, 0), fate_paper(hall, 1)]))
        hall.tick(many=9)
        self.assertEqual([len(paper) for paper in hall_paper(hall)], [5, 1])
        self.assertEqual([row[3][0] for row in hall_paper(hall)[0]], ["spread", "brought", "brought", "brought", "brought"])

    def test_papers_of_a_hall_are_one(self):
        for seed in range(450, 460):
            hall = walked(seed, 60)
            paper = hall_paper(hall)
            self.assertEqual(len(paper), hall.letters())
            for number, rows in enumerate(paper):
                self.assertEqual(kinds(rows), kinds(fate_paper(hall, number)))
            numbers = [row[0] for rows in paper for row in rows]
            self.assertEqual(sorted(numbers), list(range(len(numbers))))


class WayPaper(unittest.TestCase):

    def test_a_text_for_each_hop(self):
        hall = three()
        send(hall, ANN, EVE, about="far", text="a=b")
        hall.tick(many=9)
        own = "from: ann@elm\nto: eve@ash\nabout: far\nnumber: 0\n\nwords plain\na=b"
        self.assertEqual(kinds(way_paper(hall, 0)), kinds([
            ("elm", 0, "came: elm 0\n" + own), ("oak", 3, "came: oak 3\ncame: elm 0\n" + own),
            ("ash", 4, "came: ash 4\ncame: oak 3\ncame: elm 0\n" + own)]))
        self.assertEqual(way_paper(hall, 0)[-1][2], hall.read(EVE, 0))

    def test_before_it_has_come(self):
        hall = three()
        send(hall, ANN, EVE)
        self.assertEqual([row[:2] for row in way_paper(hall, 0)], [("elm", 0)])
        hall.tick(many=2)
        self.assertEqual([row[:2] for row in way_paper(hall, 0)], [("elm", 0)])
        hall.tick()
        self.assertEqual([row[:2] for row in way_paper(hall, 0)], [("elm", 0), ("oak", 3)])

    def test_all_of_passed_at_each_hop(self):
        hall = spread_hall()
        hall.tick(many=9)
        for place, tick, text in way_paper(hall, 2):
            self.assertIn("\npassed: bob@elm\npassed: both@elm\nfrom: ann@elm\n", text)
        self.assertEqual([text.count("came: ") for place, tick, text in way_paper(hall, 2)], [1, 2, 3])

    def test_by_each_houses_ways(self):
        houses = (house("elm", "ann", ways=("marked",)), house("oak", "cid", ways=("packed",)), house("ash", "eve", ways=("plain", "packed")))
        hall = Hall((houses, (("elm", "oak", 1), ("oak", "ash", 1))))
        hall.send(ANN, (EVE,), "x", words("a=b"))
        hall.tick(many=9)
        self.assertEqual([text.split("\n\n")[1] for place, tick, text in way_paper(hall, 0)],
                         ["words marked\na=003db", "words packed\nAGEAPQBi", "words plain\na=b"])

    def test_as_letters_tell(self):
        brought = 0
        for seed in range(460, 490):
            hall = walked(seed, 60)
            ways = {row[0]: row[3] for row in hall.plan[0]}
            for copy, (number, state) in copies_in(hall).items():
                rows = way_paper(hall, copy)
                self.assertEqual([row[:2] for row in rows], hall.hops(copy))
                heads, body = hall.letter(number)
                passed = tuple(("passed", "@".join(one)) for one in reversed(hall.passed(copy)))
                for at, (place, tick, text) in enumerate(rows):
                    came = tuple(("came", home + " " + str(then)) for home, then in reversed(hall.hops(copy)[:at + 1]))
                    self.assertEqual(text, letter_text((came + passed + heads, body), ways=ways[place]))
                for piece, box, word in state[1] if state[0] == "brought" else ():
                    if word == "there":
                        owner = [who for who in people_in(hall.plan) if piece in hall.find(who, ALL) and (who, box) in hall.boxes(who)][0]
                        self.assertEqual(hall.read(owner, piece), rows[-1][2])
                        brought += 1
        self.assertGreater(brought, 100)

    def test_refused(self):
        hall = spread_hall()
        for copy in (6, 99, -1):
            self.assertEqual(refused(way_paper, hall, copy), ("NoCopy", copy))
            self.assertEqual(refused(shows_way, hall, copy, way_paper(hall, 0)), ("NoCopy", copy))


def desk_hall():
    """Pieces 0 to 4 of bob, all known to desk 1."""
    hall = one_house("ann", "bob")
    for k in range(5):
        send(hall, ANN, ("bob", "elm"))
    hall.desk(BOB)
    return hall


IN = ("in", ())


class DeskPaper(unittest.TestCase):

    def test_rows_rising_of_what_each_knows(self):
        hall = desk_hall()
        self.assertEqual(kinds(desk_paper(hall, 1)), kinds([(piece, IN, IN) for piece in range(5)]))
        hall.file(BOB, 1, "old")
        hall.mark(BOB, 2, "hot")
        hall.mark(BOB, 2, "cold")
        hall.away(1, ("mark", 2, "seen", True))
        hall.away(1, ("file", 3, "new"))
        self.assertEqual(kinds(desk_paper(hall, 1)), kinds([
            (0, IN, IN), (1, ("old", ()), IN), (2, ("in", ("cold", "hot")), ("in", ("seen",))), (3, IN, ("new", ())), (4, IN, IN)]))
        hall.meet(1)
        self.assertEqual(kinds(desk_paper(hall, 1)), kinds([
            (0, IN, IN), (1, ("old", ()), ("old", ())), (2, ("in", ("cold", "hot", "seen")), ("in", ("cold", "hot", "seen"))),
            (3, ("new", ()), ("new", ())), (4, IN, IN)]))

    def test_dropped_at_the_desk_alone(self):
        hall = desk_hall()
        hall.away(1, ("drop", 1))
        self.assertEqual(desk_paper(hall, 1)[:3], [(0, IN, IN), (1, IN, None), (2, IN, IN)])
        hall.meet(1)
        self.assertEqual([row[0] for row in desk_paper(hall, 1)], [0, 2, 3, 4])

    def test_dropped_in_the_house_alone(self):
        hall = desk_hall()
        hall.drop(BOB, 1)
        self.assertEqual(desk_paper(hall, 1)[:3], [(0, IN, IN), (1, None, IN), (2, IN, IN)])
        hall.meet(1)
        self.assertEqual([row[0] for row in desk_paper(hall, 1)], [0, 2, 3, 4])

    def test_dropped_at_both(self):
        hall = desk_hall()
        hall.drop(BOB, 1)
        hall.away(1, ("drop", 1))
        self.assertEqual([row[0] for row in desk_paper(hall, 1)], [0, 2, 3, 4])

    def test_over(self):
        hall = desk_hall()
        hall.file(BOB, 0, "old")
        hall.term(BOB, "in", 1)
        hall.hold(ALL)
        hall.tick()
        self.assertEqual(desk_paper(hall, 1), [(0, ("old", ()), IN)] + [(piece, None, IN) for piece in range(1, 5)])
        hall.meet(1)
        self.assertEqual(desk_paper(hall, 1), [(0, ("old", ()), ("old", ()))])

    def test_brought_since(self):
        hall = desk_hall()
        send(hall, ANN, BOB)
        self.assertEqual(desk_paper(hall, 1)[4:], [(4, IN, IN), (5, IN, None)])
        hall.desk(BOB)
        self.assertEqual(desk_paper(hall, 2)[4:], [(4, IN, IN), (5, IN, IN)])

    def test_of_nobody_elses_pieces(self):
        hall = desk_hall()
        send(hall, BOB, ANN)
        hall.desk(ANN)
        hall.share(BOB, "in", ANN, ("see", "drop"))
        self.assertEqual(desk_paper(hall, 2), [(5, IN, IN)])
        hall.drop(ANN, 0)
        self.assertEqual(desk_paper(hall, 1)[0], (0, None, IN))

    def test_of_none(self):
        hall = one_house("ann")
        hall.desk(ANN)
        self.assertEqual(kinds(desk_paper(hall, 1)), kinds([]))
        hall.shut("elm")
        self.assertIs(shows_desk(hall, 1, []), True)

    def test_as_boxes_and_desk_pieces_tell(self):
        unlike = 0
        for seed in range(490, 520):
            walk = Walk(seed)
            owners = []
            for turn in range(70):
                entry, refusal = walk.step()
                if entry[0] == "desk" and refusal is None:
                    owners.append(entry[1])
                for number, owner in enumerate(owners, 1):
                    paper = desk_paper(walk.hall, number)
                    by_house = {row[0]: (box, row[3]) for box in NAMES for row in walk.hall.pieces(owner, owner, box)}
                    by_desk = {row[0]: (box, row[3]) for box in NAMES for row in walk.hall.desk_pieces(number, box)}
                    self.assertEqual(kinds(paper), kinds([(piece, by_house.get(piece), by_desk.get(piece)) for piece in sorted({*by_house, *by_desk})]))
                    unlike += len([row for row in paper if row[1] != row[2]])
                if entry[0] == "meet" and refusal is None:
                    self.assertTrue(all(row[1] == row[2] is not None for row in desk_paper(walk.hall, entry[1])))
        self.assertGreater(unlike, 500)

    def test_refused(self):
        hall = desk_hall()
        for number in (0, 2, -1, 99):
            self.assertEqual(refused(desk_paper, hall, number), ("NoDesk", number))
            for thing in ([], None, desk_paper(hall, 1)):
                self.assertEqual(refused(shows_desk, hall, number, thing), ("NoDesk", number))


def paper_hall():
    """A small hall whose papers have all kinds of things in them: 0 and 1, None, marks, boxes, states."""
    hall = spread_hall()
    hall.tick()
    send(hall, CID, ("zed", "oak"), DAN)
    hall.desk(BOB)
    hall.mark(BOB, 1, "hot")
    hall.away(1, ("drop", 0))
    hall.away(1, ("file", 1, "box"))
    hall.send(ANN, (BOB,), "", words("x"))
    return hall


class Shows(unittest.TestCase):

    def asks(self, hall):
        """Each paper with what shows it."""
        for number in range(hall.letters()):
            yield fate_paper(hall, number), lambda thing, number=number: shows_fate(hall, number, thing)
        yield hall_paper(hall), lambda thing: shows_hall(hall, thing)
        for copy in copies_in(hall):
            yield way_paper(hall, copy), lambda thing, copy=copy: shows_way(hall, copy, thing)
        yield desk_paper(hall, 1), lambda thing: shows_desk(hall, 1, thing)

    def test_the_paper_itself_and_nothing_else(self):
        hall = paper_hall()
        ahead, calls = told(hall), hall.calls()
        many = 0
        for paper, shows in self.asks(hall):
            self.assertIs(shows(paper), True)
            for thing in variants(paper):
                many += 1
                self.assertIs(shows(thing), False, (paper, thing))
            self.assertIs(shows(paper), True)
        self.assertGreater(many, 1500)
        self.assertEqual((told(hall), hall.calls()), (ahead, calls))

    def test_the_paper_made_anew(self):
        hall = paper_hall()
        for (paper, shows), (other, shows_other) in zip(self.asks(hall), self.asks(hall.twin()), strict=True):
            self.assertIsNot(paper, other)
            self.assertIs(shows(other), True)
            self.assertIs(shows_other(paper), True)

    def test_things_of_any_kind(self):
        hall = paper_hall()
        for paper, shows in self.asks(hall):
            for thing in odd_things():
                self.assertIs(shows(thing), False)
                self.assertIs(shows([thing]), False)
                self.assertIs(shows([thing] * len(paper)), False)
                self.assertIs(shows([(thing,) * 4] * len(paper)), False)

    def test_other_papers(self):
        hall = paper_hall()
        all_asks = list(self.asks(hall))
        self.assertGreater(len(all_asks), 8)
        for at, (paper, shows) in enumerate(all_asks):
            for other, (thing, shows_other) in enumerate(all_asks):
                # Two copies of a letter may have gone the same way.
                self.assertIs(shows(thing), kinds(thing) == kinds(paper), (at, other))

    def test_of_another_letter_copy_and_desk(self):
        hall = paper_hall()
        hall.desk(BOB)
        self.assertIs(shows_fate(hall, 1, fate_paper(hall, 0)), False)
        self.assertIs(shows_way(hall, 1, way_paper(hall, 0)), False)
        self.assertIs(shows_desk(hall, 2, desk_paper(hall, 1)), False)
        self.assertIs(shows_desk(hall, 2, desk_paper(hall, 2)), True)

    def test_behind_a_deed_a_paper_ahead_is_none(self):
        hall = paper_hall()
        paper, desk = hall_paper(hall), desk_paper(hall, 1)
        hall.tick(many=9)
        self.assertIs(shows_hall(hall, paper), False)
        hall.meet(1)
        self.assertIs(shows_desk(hall, 1, desk), False)
        self.assertIs(shows_hall(three(), []), True)
        self.assertIs(shows_hall(three(), ()), False)

    def test_papers_are_the_askers_own(self):
        hall = paper_hall()
        for ask, shows in ((lambda: fate_paper(hall, 0), lambda thing: shows_fate(hall, 0, thing)), (lambda: hall_paper(hall), lambda thing: shows_hall(hall, thing)),
                           (lambda: way_paper(hall, 0), lambda thing: shows_way(hall, 0, thing)), (lambda: desk_paper(hall, 1), lambda thing: shows_desk(hall, 1, thing))):
            first, second = ask(), ask()
            ahead = kinds(second)
            self.assertEqual(kinds(first), ahead)
            self.assertIsNot(first, second)
            self.assertTrue(all(one is not two for one, two in zip(first, second) if isinstance(one, list)))
            for inner in first:
                if isinstance(inner, list):
                    inner.clear()
            first.clear()
            self.assertEqual((kinds(second), kinds(ask())), (ahead, ahead))
            self.assertIs(shows(second), True)
        both = hall_paper(hall)
        self.assertEqual(len({id(rows) for rows in both}), len(both))

    def test_asking_leaves_the_hall_as_it_is(self):
        hall = paper_hall()
        ahead, calls = told(hall), hall.calls()
        list(self.asks(hall))
        for ask in (fate_paper, way_paper, desk_paper):
            refused(ask, hall, 99)
        self.assertEqual((told(hall), hall.calls()), (ahead, calls))


if __name__ == "__main__":
    unittest.main()
