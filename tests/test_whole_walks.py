"""Point [1] over the whole program: plans, deeds, desks, replays and papers together."""

import itertools
import unittest

from letterhall.hall import Hall
from letterhall.papers import desk_paper, fate_paper, hall_paper, shows_desk, shows_fate, shows_hall, shows_way, way_paper
from letterhall.replays import as_of, replay, shows_log
from letterhall.rules import holds
from letterhall.texts import plan_in, plan_text
from tests.halls import ALL, ANN, BOB, NAMES, Walk, count_of, do, one_house, people_in, send, told
from tests.samples import kinds

OVER = ("spread", "again", "failed", "brought")


def all_papers(hall):
    """All papers of a hall, with what shows each of them."""
    copies = [row[0] for rows in hall_paper(hall) for row in rows]
    told_papers = [("hall", hall_paper(hall), lambda other, thing: shows_hall(other, thing))]
    told_papers += [(("fate", number), fate_paper(hall, number), lambda other, thing, number=number: shows_fate(other, number, thing)) for number in range(hall.letters())]
    told_papers += [(("way", copy), way_paper(hall, copy), lambda other, thing, copy=copy: shows_way(other, copy, thing)) for copy in copies]
    told_papers += [(("desk", number), desk_paper(hall, number), lambda other, thing, number=number: shows_desk(other, number, thing))
                    for number in range(1, count_of(hall, "desk") + 1)]
    return told_papers


def paper_kinds(hall):
    return [(name, kinds(paper)) for name, paper, shows in all_papers(hall)]


class WholeWalks(unittest.TestCase):

    def test_behind_each_deed_the_replay_is_the_hall(self):
        for seed in range(700, 712):
            walk = Walk(seed)
            for turn in range(60):
                walk.step()
                hall = walk.hall
                again = replay(hall.plan, hall.log())
                self.assertTrue(again == hall)
                self.assertEqual(kinds(hall_paper(again)), kinds(hall_paper(hall)))
                if turn % 6 == 5:
                    self.assertEqual(told(again), told(hall))
                    self.assertEqual(paper_kinds(again), paper_kinds(hall))
                    self.assertTrue(all(shows(again, paper) is True for name, paper, shows in all_papers(hall)))
            self.assertIs(shows_log(hall.plan, hall.log()), True)
            self.assertTrue(replay(plan_in(plan_text(hall.plan)), hall.log()) == hall)

    def test_as_of_is_the_twin_that_was_kept_then(self):
        for seed in range(712, 724):
            walk = Walk(seed)
            twins = {0: walk.hall.twin()}
            for turn in range(80):
                walk.step()
                twins[len(walk.hall.log())] = walk.hall.twin()
            for many in range(0, len(walk.hall.log()) + 1, 5):
                found = as_of(walk.hall, many)
                self.assertTrue(found == twins[many])
                self.assertEqual(told(found), told(twins[many]))
                self.assertEqual(paper_kinds(found), paper_kinds(twins[many]))

    def test_a_replay_goes_on_alike(self):
        for seed in range(724, 734):
            walk = Walk(seed)
            for turn in range(40):
                walk.step()
            again = replay(walk.hall.plan, walk.hall.log())
            for turn in range(40):
                done = len(walk.hall.log())
                entry, refusal = walk.step()
                if len(walk.hall.log()) > done:
                    do(again, entry)
            self.assertTrue(again == walk.hall)
            self.assertEqual(told(again), told(walk.hall))

    def test_each_copy_is_in_one_state_and_in_one_place(self):
        for seed in range(734, 750):
            walk = Walk(seed)
            for turn in range(70):
                walk.step()
                hall = walk.hall
                waiting = {copy: row[0] for row in hall.plan[0] for copy in hall.queue(row[0])}
                on_links = {copy: {one, other} for one, other, delay in hall.plan[1] for copy in hall.on_link(one, other)}
                pieces = []
                for rows in hall_paper(hall):
                    for copy, begun, address, state in rows:
                        self.assertEqual(state[0] == "queue", copy in waiting)
                        self.assertEqual(state[0] == "link", copy in on_links)
                        if state[0] == "queue":
                            self.assertEqual(waiting[copy], state[1])
                        if state[0] == "link":
                            self.assertEqual(on_links[copy], set(state[1:3]))
                        if state[0] == "brought":
                            pieces += [row[0] for row in state[1]]
                self.assertEqual(sorted(pieces), list(range(len(pieces))))

    def test_when_all_is_awake_and_tied_each_copy_comes_to_its_end(self):
        for seed in range(750, 770):
            walk = Walk(seed)
            for turn in range(50):
                walk.step()
            hall = walk.hall
            for row in hall.plan[0]:
                hall.wake(row[0])
            for one, other, delay in hall.plan[1]:
                hall.tie(one, other)
            for turn in range(8):
                hall.tick(many=50)
            for rows in hall_paper(hall):
                self.assertTrue(all(row[3][0] in OVER for row in rows))
            # No answer was answered, and nobody twice by one rule's text.
            autos = [number for number in range(hall.letters()) if holds(("auto",), hall.letter(number))]
            for number in autos:
                line = dict(hall.letter(number)[0])["line"].split(" ")
                self.assertNotIn(int(line[-1]), autos)

    def test_a_held_letter_never_goes(self):
        kept = 0
        for seed in range(770, 790):
            walk = Walk(seed)
            walk.hall.hold(ALL)
            for turn in range(60):
                entry = walk.entry()
                if entry[0] != "release":
                    try:
                        do(walk.hall, entry)
                    except (LookupError, RuntimeError):
                        pass
            words = [row[2] for rows in hall_paper(walk.hall) for copy in rows if copy[3][0] == "brought" for row in copy[3][1]]
            self.assertNotIn("gone", words)
            kept += words.count("kept")
            for number in range(count_of(walk.hall, "hold")):
                walk.hall.release(number)
            behind = [row[2] for rows in hall_paper(walk.hall) for copy in rows if copy[3][0] == "brought" for row in copy[3][1]]
            self.assertEqual(behind, [{"kept": "gone"}.get(word, word) for word in words])
        self.assertGreater(kept, 20)


class DesksInUnlikeOrders(unittest.TestCase):

    DEEDS = {
        0: [("file", 0, "old"), ("mark", 1, "hot", True), ("drop", 2), ("file", 3, "old"), ("mark", 4, "hot", False)],
        1: [("file", 0, "new"), ("mark", 1, "hot", False), ("mark", 2, "seen", True), ("file", 3, "box")],
        2: [("file", 0, "box"), ("file", 0, "in"), ("drop", 3), ("mark", 4, "hot", True)],
        3: [("mark", 1, "cold", True), ("file", 1, "old"), ("file", 4, "new"), ("drop", 5)],
    }

    def do_all(self, hall):
        """What the house and each desk does ahead of any meeting."""
        for place, deeds in self.DEEDS.items():
            for deed in deeds:
                if place:
                    hall.away(place, deed)
                else:
                    do(hall, (deed[0], BOB, *deed[1:]))

    def hall(self):
        hall = one_house("ann", "bob")
        for turn in range(6):
            send(hall, ANN, BOB)
        for turn in range(3):
            hall.desk(BOB)
        return hall

    def shown(self, hall):
        return [hall.pieces(BOB, BOB, box) for box in NAMES]

    def test_they_show_the_same_in_the_end(self):
        ends = []
        for order in itertools.permutations((1, 2, 3)):
            hall = self.hall()
            self.do_all(hall)
            for number in order:
                hall.meet(number)
                self.assertTrue(all(row[1] == row[2] for row in desk_paper(hall, number)))
            for number in order[::-1]:
                hall.meet(number)
            for number in order:
                self.assertEqual([hall.desk_pieces(number, box) for box in NAMES], self.shown(hall))
            ends.append((self.shown(hall), kinds([desk_paper(hall, number) for number in (1, 2, 3)])))
        self.assertEqual([end == ends[0] for end in ends], [True] * 6)
        self.assertEqual([row[0] for row in desk_paper(hall, 1)], [0, 1, 4])

    def test_with_chance(self):
        for seed in range(790, 800):
            walk = Walk(seed)
            for turn in range(90):
                walk.step()
            hall = walk.hall
            for row in hall.plan[0]:
                hall.wake(row[0])
            desks = range(1, count_of(hall, "desk") + 1)
            first, second = hall.twin(), hall.twin()
            for number in (*desks, *desks):
                first.meet(number)
            for number in (*reversed(desks), *reversed(desks)):
                second.meet(number)
            self.assertEqual([desk_paper(first, number) for number in desks], [desk_paper(second, number) for number in desks])
            for who in people_in(hall.plan):
                for box in NAMES:
                    self.assertEqual(first.pieces(who, who, box), second.pieces(who, who, box))

    def test_of_no_deed_a_hall_of_like_plans_alone(self):
        hall = self.hall()
        self.assertFalse(replay(hall.plan, hall.log()[1:]) == hall)
        self.assertTrue(Hall(hall.plan) == as_of(hall, 0))


if __name__ == "__main__":
    unittest.main()
