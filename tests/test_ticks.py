"""Point [11]: ticks, queues, links, tries; houses shut and links cut."""

import unittest

from letterhall.hall import Hall
from tests.halls import ANN, BOB, CID, DAN, EVE, head, house, on_all, refused, send, state, three, told


def trail_words(hall, copy):
    return [(tick, word) for tick, home, word in hall.trail(copy)]


class Going(unittest.TestCase):

    def test_tick_tells_the_tick(self):
        hall = three()
        self.assertEqual(hall.tick(), 1)
        self.assertEqual(hall.tick(many=50), 51)
        self.assertEqual(hall.now(), 51)

    def test_delays(self):
        for delay in (1, 2, 3, 4):
            hall = Hall(((house("elm", "ann"), house("oak", "cid")), (("oak", "elm", delay),)))
            hall.tick(many=2)
            send(hall, ANN, CID)
            self.assertEqual(state(hall, 0), ("queue", "elm", "oak", 2, 0))
            hall.tick()
            for now in range(3, 3 + delay):
                self.assertEqual(state(hall, 0), ("link", "elm", "oak", 3 + delay))
                self.assertEqual((hall.queue("elm"), hall.on_link("elm", "oak"), hall.on_link("oak", "elm")), ([], [0], [0]))
                hall.tick()
            self.assertEqual(state(hall, 0)[0], "brought")
            self.assertEqual(hall.on_link("elm", "oak"), [])
            self.assertEqual(hall.trail(0), [(2, "elm", "came"), (2, "elm", "queue"), (3, "elm", "left"), (3 + delay, "oak", "came"),
                                             (3 + delay, "oak", "brought")])
            self.assertEqual(hall.pieces(CID, CID, "in"), [(0, 0, 3 + delay, ())])

    def test_what_comes_goes_on_in_the_same_tick(self):
        hall = three()
        send(hall, ANN, EVE)
        hall.tick(many=3)
        self.assertEqual(hall.trail(0), [(0, "elm", "came"), (0, "elm", "queue"), (1, "elm", "left"), (3, "oak", "came"), (3, "oak", "queue"),
                                         (3, "oak", "left")])
        self.assertEqual(state(hall, 0), ("link", "oak", "ash", 4))
        hall.tick()
        self.assertEqual(hall.hops(0), [("elm", 0), ("oak", 3), ("ash", 4)])
        self.assertEqual(state(hall, 0)[0], "brought")

    def test_many_ticks_are_as_many_single_ones(self):
        def walk(steps):
            hall = three(elm=(("all", (CID, EVE, ("zed", "oak"))),), oak=(("few", (ANN, EVE)),))
            hall.rule(CID, on_all(("on", ("few", "oak")), ("answer", "gone"), ("file", "in")))
            hall.term(EVE, "in", 3)
            send(hall, ANN, ("all", "elm"))
            hall.cut("oak", "ash")
            for many in steps:
                hall.tick(many=many)
            hall.tie("ash", "oak")
            hall.tick(many=10)
            return {key: worth for key, worth in told(hall).items() if key != "log"}

        self.assertEqual(walk((1,) * 9), walk((9,)))
        self.assertEqual(walk((4, 5)), walk((9,)))

    def test_order_on_links_is_that_in_which_they_went(self):
        # Both are due at tick 5, by links of unlike delays into the same house.
        hall = Hall(((house("elm", "ann"), house("oak", "cid"), house("ash", "eve")), (("elm", "ash", 4), ("ash", "oak", 1))))
        send(hall, ANN, EVE)
        hall.tick(many=3)
        send(hall, CID, EVE)
        hall.tick(many=2)
        self.assertEqual(hall.pieces(EVE, EVE, "in"), [(0, 0, 5, ()), (1, 1, 5, ())])
        hall = Hall(((house("elm", "ann"), house("oak", "cid"), house("ash", "eve")), (("oak", "ash", 4), ("elm", "ash", 1))))
        send(hall, CID, EVE)
        hall.tick(many=3)
        send(hall, ANN, EVE)
        hall.tick(many=2)
        self.assertEqual(hall.pieces(EVE, EVE, "in"), [(0, 0, 5, ()), (1, 1, 5, ())])

    def test_houses_go_in_the_plans_order(self):
        for names, told_order in ((("elm", "oak", "ash"), [1, 0]), (("oak", "elm", "ash"), [0, 1])):
            homes = {"elm": house("elm", "ann"), "oak": house("oak", "cid"), "ash": house("ash", "eve")}
            hall = Hall((tuple(homes[name] for name in names), (("elm", "ash", 2), ("oak", "ash", 2), ("elm", "oak", 4))))
            send(hall, CID, EVE)
            send(hall, ANN, EVE)
            hall.tick(many=3)
            self.assertEqual([row[1] for row in hall.pieces(EVE, EVE, "in")], told_order)

    def test_both_ways_on_one_link(self):
        hall = three()
        send(hall, CID, ANN)
        send(hall, ANN, CID)
        hall.tick()
        self.assertEqual(hall.on_link("elm", "oak"), [1, 0])
        self.assertEqual(hall.on_link("oak", "elm"), [1, 0])
        self.assertEqual(hall.on_link("oak", "ash"), [])


class Tries(unittest.TestCase):

    def check_tries(self, close, hall):
        send(hall, ANN, CID)
        close(hall)
        for tick, due, tries in ((1, 2, 1), (2, 4, 2), (3, 4, 2), (4, 8, 3), (5, 8, 3), (7, 8, 3), (8, 16, 4), (15, 16, 4)):
            hall.tick(many=tick - hall.now())
            self.assertEqual(state(hall, 0), ("queue", "elm", "oak", due, tries))
            self.assertEqual(hall.queue("elm"), [0])
        self.assertEqual(hall.letters(), 1)
        hall.tick()
        self.assertEqual(state(hall, 0), ("failed", "late"))
        self.assertEqual(hall.queue("elm"), [])
        self.assertEqual(hall.trail(0), [(0, "elm", "came"), (0, "elm", "queue"), (1, "elm", "late"), (2, "elm", "late"), (4, "elm", "late"),
                                         (8, "elm", "late"), (16, "elm", "late"), (16, "elm", "failed")])
        self.assertEqual((head(hall, 1, "from"), head(hall, 1, "about")), ("post@elm", "not brought late"))
        self.assertEqual(hall.pieces(ANN, ANN, "in"), [(0, 1, 16, ())])

    def test_next_house_shut(self):
        self.check_tries(lambda hall: hall.shut("oak"), three())

    def test_link_cut(self):
        self.check_tries(lambda hall: hall.cut("oak", "elm"), three())

    def test_it_goes_when_it_is_due_again(self):
        hall = three()
        hall.cut("elm", "oak")
        send(hall, ANN, CID)
        hall.tick(many=4)
        self.assertEqual(state(hall, 0), ("queue", "elm", "oak", 8, 3))
        hall.tie("elm", "oak")
        hall.tick(many=3)
        self.assertEqual(state(hall, 0), ("queue", "elm", "oak", 8, 3))
        hall.tick()
        self.assertEqual(state(hall, 0), ("link", "elm", "oak", 10))

    def test_staying_in_its_place(self):
        hall = three()
        hall.cut("elm", "oak")
        send(hall, ANN, CID)
        hall.tick(many=2)
        send(hall, ANN, DAN)
        hall.tick()
        self.assertEqual((hall.queue("elm"), state(hall, 0), state(hall, 1)),
                         ([0, 1], ("queue", "elm", "oak", 4, 2), ("queue", "elm", "oak", 4, 1)))
        hall.tie("elm", "oak")
        hall.tick()
        self.assertEqual(hall.on_link("elm", "oak"), [0, 1])

    def test_one_due_later_lets_others_by(self):
        hall = three()
        hall.cut("elm", "oak")
        send(hall, ANN, CID)
        hall.tick(many=4)
        hall.tie("elm", "oak")
        send(hall, ANN, DAN)
        hall.tick()
        self.assertEqual((hall.queue("elm"), hall.on_link("elm", "oak")), ([0], [1]))

    def test_at_the_next_house_tries_begin_anew(self):
        hall = three()
        hall.cut("elm", "oak")
        hall.cut("oak", "ash")
        send(hall, ANN, EVE)
        hall.tick()
        hall.tie("elm", "oak")
        hall.tick(many=3)
        self.assertEqual(state(hall, 0), ("queue", "oak", "ash", 5, 1))
        self.assertEqual(trail_words(hall, 0), [(0, "came"), (0, "queue"), (1, "late"), (2, "left"), (4, "came"), (4, "queue"), (4, "late")])

    def test_a_telling_of_a_late_one_waits_for_the_next_tick(self):
        # The telling to ann at elm comes into oak's queue within (b), so it goes one tick later.
        hall = three()
        send(hall, ANN, EVE)
        hall.cut("oak", "ash")
        hall.tick(many=3)
        self.assertEqual(state(hall, 0), ("queue", "oak", "ash", 4, 1))
        hall.tick(many=15)
        self.assertEqual((hall.now(), state(hall, 0)), (18, ("failed", "late")))
        self.assertEqual(state(hall, 1), ("queue", "oak", "elm", 18, 0))
        hall.tick()
        self.assertEqual(state(hall, 1), ("link", "oak", "elm", 21))

    def test_a_telling_of_what_came_goes_on_in_the_same_tick(self):
        hall = three()
        send(hall, ANN, ("zed", "oak"))
        hall.tick(many=3)
        self.assertEqual((state(hall, 0), state(hall, 1)), (("failed", "nobody"), ("link", "oak", "elm", 5)))


class ShutAndCut(unittest.TestCase):

    def test_told_whether_anything_is_otherwise(self):
        hall = three()
        self.assertEqual([hall.wake("elm"), hall.shut("elm"), hall.shut("elm"), hall.is_awake("elm"), hall.wake("elm"), hall.wake("elm"),
                          hall.is_awake("elm")], [False, True, False, False, True, False, True])
        self.assertEqual([hall.tie("elm", "oak"), hall.cut("elm", "oak"), hall.cut("oak", "elm"), hall.is_tied("oak", "elm"),
                          hall.is_tied("oak", "ash"), hall.tie("oak", "elm"), hall.tie("elm", "oak"), hall.is_tied("elm", "oak")],
                         [False, True, False, False, True, True, False, True])

    def test_refused(self):
        hall = three()
        for ask in (hall.shut, hall.wake, hall.is_awake, hall.queue):
            self.assertEqual(refused(ask, "yew"), ("NoHouse", "yew"))
        for ask in (hall.cut, hall.tie, hall.is_tied, hall.on_link):
            self.assertEqual(refused(ask, "yew", "fir"), ("NoHouse", "yew"))
            self.assertEqual(refused(ask, "elm", "fir"), ("NoHouse", "fir"))
            self.assertEqual(refused(ask, "yew", "elm"), ("NoHouse", "yew"))
            self.assertEqual(refused(ask, "elm", "ash"), ("NoLink", "elm", "ash"))
            self.assertEqual(refused(ask, "ash", "elm"), ("NoLink", "ash", "elm"))
            self.assertEqual(refused(ask, "elm", "elm"), ("NoLink", "elm", "elm"))

    def test_cut_with_copies_both_ways(self):
        hall = three()
        send(hall, CID, ANN)
        send(hall, ANN, CID, DAN)
        hall.tick()
        send(hall, BOB, EVE)
        self.assertEqual(hall.on_link("elm", "oak"), [1, 2, 0])
        hall.cut("oak", "elm")
        self.assertEqual(hall.on_link("elm", "oak"), [])
        self.assertEqual((hall.queue("elm"), hall.queue("oak")), ([3, 1, 2], [0]))
        self.assertEqual(state(hall, 1), ("queue", "elm", "oak", 1, 0))
        self.assertEqual(hall.trail(1), [(0, "elm", "came"), (0, "elm", "queue"), (1, "elm", "left"), (1, "elm", "back")])
        self.assertEqual(hall.hops(1), [("elm", 0)])
        hall.tie("elm", "oak")
        hall.tick()
        self.assertEqual(hall.on_link("elm", "oak"), [3, 1, 2, 0])

    def test_only_that_link(self):
        hall = three()
        send(hall, EVE, CID)
        send(hall, ANN, CID)
        hall.tick()
        hall.cut("elm", "oak")
        self.assertEqual((hall.on_link("oak", "ash"), hall.queue("elm")), ([0], [1]))

    def test_shut_with_copies_from_and_to_it(self):
        hall = three()
        send(hall, CID, ANN, EVE)
        send(hall, EVE, CID)
        send(hall, ANN, CID)
        hall.tick()
        # elm goes first, then oak, then ash.
        self.assertEqual((hall.on_link("elm", "oak"), hall.on_link("oak", "ash")), ([3, 0], [1, 2]))
        hall.shut("oak")
        self.assertEqual([hall.queue(name) for name in ("elm", "oak", "ash")], [[3], [0, 1], [2]])
        self.assertEqual([state(hall, copy) for copy in (0, 2)], [("queue", "oak", "elm", 1, 0), ("queue", "ash", "oak", 1, 0)])
        self.assertEqual((hall.trail(2)[-1], hall.trail(0)[-1]), ((1, "ash", "back"), (1, "oak", "back")))

    def test_links_that_do_not_touch_it_go_on(self):
        hall = three()
        send(hall, ANN, CID)
        hall.tick()
        hall.shut("ash")
        self.assertEqual(hall.on_link("elm", "oak"), [0])

    def test_in_a_shut_house_nothing_comes_or_goes(self):
        hall = three()
        send(hall, CID, ANN, EVE)
        hall.shut("oak")
        send(hall, ANN, CID)
        hall.tick(many=20)
        # Those that wait in the shut house have no tries, those that wait for it have.
        self.assertEqual([state(hall, copy) for copy in (0, 1, 2)], [("queue", "oak", "elm", 0, 0), ("queue", "oak", "ash", 0, 0), ("failed", "late")])
        hall.wake("oak")
        hall.tick()
        self.assertEqual(state(hall, 0), ("link", "oak", "elm", 23))

    def test_tries_stay_when_it_goes_back(self):
        hall = three()
        hall.cut("elm", "oak")
        send(hall, ANN, CID)
        hall.tick(many=2)
        hall.tie("elm", "oak")
        hall.tick(many=2)
        self.assertEqual(state(hall, 0), ("link", "elm", "oak", 6))
        hall.cut("elm", "oak")
        self.assertEqual(state(hall, 0), ("queue", "elm", "oak", 4, 2))
        hall.tick()
        self.assertEqual(state(hall, 0), ("queue", "elm", "oak", 9, 3))
        self.assertEqual(trail_words(hall, 0), [(0, "came"), (0, "queue"), (1, "late"), (2, "late"), (4, "left"), (4, "back"), (5, "late")])

    def test_going_back_takes_no_try(self):
        hall = three()
        send(hall, ANN, CID)
        for turn in range(8):
            hall.tick()
            hall.cut("elm", "oak")
            hall.tie("elm", "oak")
        self.assertEqual(state(hall, 0), ("queue", "elm", "oak", 8, 0))

    def test_shut_again_leaves_all_as_it_was(self):
        hall = three()
        hall.shut("oak")
        send(hall, ANN, CID)
        hall.tick()
        hall.shut("oak")
        self.assertEqual(state(hall, 0), ("queue", "elm", "oak", 2, 1))

    def test_behind_all_in_the_queue(self):
        hall = three()
        send(hall, ANN, CID)
        send(hall, ANN, DAN)
        hall.tick()
        send(hall, ANN, EVE)
        hall.shut("elm")
        self.assertEqual(hall.queue("elm"), [2, 0, 1])


if __name__ == "__main__":
    unittest.main()
