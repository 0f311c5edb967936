"""Point [19]: replays, a hall as of some deeds, and what a log shows."""

import unittest

from letterhall.hall import Hall
from letterhall.replays import as_of, replay, shows_log
from tests.halls import ALL, ANN, ARGUMENTS, BOB, CID, EVE, Walk, do, house, on_all, refused, replayed, told
from tests.samples import kinds, listed, odd_things, part, parts, words
from tests.test_told import LOG, PLAN
from tests.variants import variants

ZED = ("zed", "elm")


def calls_of(log):
    """The calls of a hall to which just these deeds were done."""
    return [(side, entry[0]) for entry in log for side in ("in", "out")]


class Replay(unittest.TestCase):

    def test_each_kind_of_deed(self):
        self.assertEqual({entry[0] for entry in LOG}, set(ARGUMENTS))
        hall = replayed(PLAN, LOG)
        again = replay(PLAN, hall.log())
        self.assertIsInstance(again, Hall)
        self.assertTrue(again == hall)
        self.assertEqual(told(again), told(hall))
        self.assertEqual(again.calls(), calls_of(LOG))

    def test_of_no_deed(self):
        self.assertTrue(replay(PLAN, []) == Hall(PLAN))
        self.assertEqual(told(replay(PLAN, [])), told(Hall(PLAN)))
        self.assertFalse(replay(PLAN, []) == replay(PLAN, [("tick", 1)]))

    def test_calls_alone_may_be_otherwise(self):
        hall = Hall(PLAN)
        self.assertEqual(refused(hall.shut, "yew"), ("NoHouse", "yew"))
        hall.tick()
        again = replay(PLAN, hall.log())
        self.assertTrue(again == hall)
        self.assertEqual(told(again), told(hall))
        self.assertEqual((len(hall.calls()), again.calls()), (4, [("in", "tick"), ("out", "tick")]))

    def test_entries_handed_in_as_lists(self):
        for make in (listed, lambda log: tuple(listed(log)), lambda log: [list(entry) for entry in log], tuple):
            handed = make(LOG)
            ahead = kinds(handed)
            again = replay(PLAN, handed)
            self.assertEqual(kinds(handed), ahead)
            self.assertEqual(kinds(again.log()), kinds(LOG))
            self.assertEqual(told(again), told(replayed(PLAN, LOG)))

    def test_what_was_handed_in_is_not_kept(self):
        handed = listed(LOG)
        again = replay(PLAN, handed)
        for entry in handed:
            entry.clear()
        handed.clear()
        self.assertEqual(told(again), told(replayed(PLAN, LOG)))

    def test_a_told_log_changed_behind_changes_nothing(self):
        hall = replayed(PLAN, LOG)
        again = replay(PLAN, LOG)
        for one in (hall, again):
            log = one.log()
            log.append(("tick", 1))
            log[0] = ("tick", 9)
            one.log().clear()
        self.assertEqual(kinds(again.log()), kinds(LOG))
        self.assertEqual(told(again), told(hall))

    def test_goes_on_by_itself(self):
        hall = replayed(PLAN, LOG)
        again = replay(PLAN, hall.log())
        again.tick(many=5)
        self.assertEqual(kinds(hall.log()), kinds(LOG))
        self.assertEqual((hall.now(), again.now()), (4, 9))

    def test_refused_as_the_first_deed_that_is(self):
        for entry, refusal in (
                (("send", ZED, (BOB,), "", words(""), None), ("NoOne", ZED)), (("send", ANN, (BOB,), "", words(""), 99), ("NoLetter", 99)),
                (("shut", "yew"), ("NoHouse", "yew")), (("cut", "elm", "elm"), ("NoLink", "elm", "elm")), (("drop", ANN, 0), ("NoPiece", 0)),
                (("release", 1), ("NoHold", 1)), (("meet", 2), ("NoDesk", 2)), (("share", ANN, "in", CID, ()), ("NoOne", CID)),
                (("away", 1, ("drop", 0)), ("NoPiece", 0)), (("file", ANN, 4, "in"), ("NoPiece", 4))):
            log = LOG + [entry, ("wake", "nowhere"), ("release", 77)]
            self.assertEqual(refused(replay, PLAN, log), refusal)
            self.assertEqual(refused(do, replayed(PLAN, LOG), entry), refusal)
        self.assertEqual(refused(replay, PLAN, [("shut", "elm"), ("rule", ANN, ())]), ("Shut", "elm"))
        shared = [("send", ANN, (BOB,), "", words(""), None), ("share", BOB, "in", ANN, ("see",)), ("drop", ANN, 0)]
        self.assertEqual(refused(replay, PLAN, shared), ("NoRight", "drop"))
        plain = ((house("elm", "ann bob", ways=("plain",)),), ())
        self.assertEqual(refused(replay, plain, [("send", ANN, (BOB,), "", ("words", (0,)), None)]), ("NoWay",))

    def test_of_what_is_no_plan(self):
        for plan in ((), None, (PLAN[0], ()) + ((),), listed(PLAN), (list(PLAN[0]), PLAN[1]), ((), ())):
            for log in ([], LOG, [("wake", "nowhere")]):
                self.assertEqual(refused(replay, plan, log), ("BadPlan", plan))

    def test_beyond_the_bounds_no_error_comes(self):
        self.assertEqual(replay(PLAN, [("tick", 60)] * 8).now(), 480)
        self.assertEqual(len(replay(PLAN, [("wake", "elm")] * 310).log()), 310)


class AsOf(unittest.TestCase):

    def test_of_none_some_and_all_deeds(self):
        hall = Hall(PLAN)
        twins = [hall.twin()]
        for entry in LOG:
            do(hall, entry)
            twins.append(hall.twin())
        for many, twin in enumerate(twins):
            found = as_of(hall, many)
            self.assertIsInstance(found, Hall)
            self.assertTrue(found == twin)
            self.assertEqual(told(found), told(twin))
            self.assertEqual(kinds(found.log()), kinds(LOG[:many]))

    def test_of_more_than_there_were(self):
        hall = replayed(PLAN, LOG)
        for many in (len(LOG) + 1, len(LOG) + 2, 999):
            self.assertEqual(refused(as_of, hall, many), ("NoDeed", many))
        self.assertEqual(refused(as_of, Hall(PLAN), 1), ("NoDeed", 1))
        self.assertTrue(as_of(Hall(PLAN), 0) == Hall(PLAN))

    def test_below_none_there_is_none(self):
        self.assertTrue(as_of(replayed(PLAN, LOG), -1) == Hall(PLAN))

    def test_refused_deeds_are_no_deeds(self):
        hall = Hall(PLAN)
        hall.tick()
        refused(hall.shut, "yew")
        hall.tick()
        self.assertEqual(as_of(hall, 2).now(), 2)
        self.assertEqual(refused(as_of, hall, 3), ("NoDeed", 3))

    def test_the_hall_itself_stays(self):
        hall = replayed(PLAN, LOG)
        refused(hall.shut, "yew")
        ahead, calls = told(hall), hall.calls()
        for many in (0, 5, len(LOG)):
            found = as_of(hall, many)
            self.assertIsNot(found, hall)
            found.tick(many=7)
            found.rule(ANN, on_all(("drop",)))
            found.send(ANN, (ANN, BOB, CID), "x", words("y"))
            self.assertEqual(len(found.log()), many + 3)
            self.assertEqual((told(hall), hall.calls()), (ahead, calls))
        refused(as_of, hall, 400)
        self.assertEqual((told(hall), hall.calls()), (ahead, calls))

    def test_the_one_told_stays_where_the_hall_goes_on(self):
        hall = replayed(PLAN, LOG)
        found = as_of(hall, 9)
        ahead = told(found)
        hall.tick(many=9)
        self.assertEqual(told(found), ahead)
        self.assertEqual(told(as_of(hall, 9)), ahead)

    def test_goes_on_as_the_hall_did(self):
        hall = replayed(PLAN, LOG)
        for many in range(len(LOG) + 1):
            found = as_of(hall, many)
            for entry in LOG[many:]:
                do(found, entry)
            self.assertTrue(found == hall)
            self.assertEqual(told(found), told(hall))


def one_deep(test, deep):
    """The test so deep."""
    return test if deep == 1 else ("not", one_deep(test, deep - 1))


def body_deep(deep):
    return words("x") if deep == 1 else parts(((), body_deep(deep - 1)))


# A hall behind it has piece 0 of bob in box in, 1 of ann, desk 1 of bob, hold 0, and letter 0.
READY = [("send", ANN, (BOB, ANN), "hi", words("x"), None), ("desk", BOB), ("hold", ALL, None)]


def sent(to=(BOB,), about="hi", body=words("x"), answers=None, sender=ANN):
    return ("send", sender, to, about, body, answers)


# Entries that can be done behind READY.
RIGHT = [
    sent(), sent(to=(BOB, ANN, CID, ZED)), sent(to=(("a", "b"),)), sent(about=""), sent(about="~" * 40), sent(body=("words", ())),
    sent(body=("words", (0, 65535) * 150)), sent(body=body_deep(3)), sent(body=parts(*[part("x")] * 4)), sent(answers=0),
    sent(body=parts(((("abcdefgh", "x" * 300),) * 60, words("")))),
    ("rule", ANN, ()), ("rule", ANN, ((ALL, (("drop",),)),) * 4), ("rule", ANN, ((one_deep(("auto",), 4), (("file", "a"), ("mark", "b"), ("on", ZED), ("stop",))),)),
    ("rule", ANN, ((("word", "a" * 12), (("answer", "x" * 40),)),)), ("rule", ANN, ((("longer", 9999), (("drop",),)), (("about", " " * 40), (("drop",),)))),
    ("tick", 1), ("tick", 50), ("shut", "elm"), ("wake", "oak"), ("cut", "elm", "oak"), ("cut", "oak", "elm"), ("tie", "elm", "oak"),
    ("file", BOB, 0, "a"), ("file", BOB, 0, "abcdefgh"), ("mark", BOB, 0, "a", True), ("mark", BOB, 0, "abcdefgh", False), ("drop", ANN, 1),
    ("share", BOB, "in", ANN, ()), ("share", BOB, "never", ANN, ("drop", "see", "mark", "file")), ("term", BOB, "in", 1), ("term", BOB, "in", 400),
    ("term", BOB, "never", None), ("hold", one_deep(("from", ANN), 4), None), ("hold", ALL, ()), ("hold", ALL, (ANN, BOB, CID)),
    ("hold", ALL, (ANN, ANN, BOB, ANN)), ("hold", ALL, (CID,) * 30), ("release", 0), ("desk", CID), ("away", 1, ("file", 0, "abcdefgh")),
    ("away", 1, ("mark", 0, "a", True)), ("away", 1, ("mark", 0, "a", False)), ("away", 1, ("drop", 0)), ("meet", 1),
]
# Entries that can't, none of them for what was done ahead.
WRONG = [
    (), ("send",), ("tick",), ("nod",), ("now",), ("letters",), ("twin",), ("tick", 1, 1), ("tick", ()), ("tick", None), ("tick", "1"), ("tick", 0), ("tick", 51),
    ("tick", -1), ("tick", True), ["tick", 1], "tick", 1, None, True, (("tick", 1),), (["tick"], 1), (None, 1), (1, 1), (True, 1), ("Tick", 1), ("", 1),
    sent()[:5], sent() + (None,), list(sent()), sent(to=()), sent(to=(BOB, ANN, CID, ZED, ("a", "b"))), sent(to=(BOB, BOB)), sent(to=(BOB, ANN, BOB)),
    sent(to=[BOB]), sent(to=(list(BOB),)), sent(to=BOB), sent(to=None), sent(to=(("bob",),)), sent(to=(("bob", "elm", "x"),)), sent(to=(("bob", "abcdefghi"),)),
    sent(to=(("", "elm"),)), sent(to=(("Bob", "elm"),)), sent(to=("bob@elm",)), sent(sender=ZED), sent(sender=list(ANN)), sent(sender="ann"), sent(sender=None),
    sent(sender=("all", "elm")), sent(sender=([], {})), sent(about="~" * 41), sent(about="a\nb"), sent(about=None), sent(about=0), sent(about=("a",)),
    sent(body=("words", (0,) * 301)), sent(body=("words", (65536,))), sent(body=("words", (-1,))), sent(body=("words", (True,))), sent(body=("words", [1])),
    sent(body=["words", ()]), sent(body=("words", "")), sent(body=body_deep(4)), sent(body=parts()), sent(body=parts(*[part("x")] * 5)), sent(body=None),
    sent(body=parts(((("abcdefgh", "x" * 301),), words("")))), sent(body=parts(((("a", ""),) * 61, words("")))), sent(answers=1), sent(answers=-1),
    sent(answers=False), sent(answers="0"), sent(answers=()), sent(answers=(0,)),
    ("rule", ANN), ("rule", ANN, (), ()), ("rule", ANN, []), ("rule", ANN, None), ("rule", ANN, ((ALL, (("drop",),)),) * 5), ("rule", ANN, ((ALL, ()),)),
    ("rule", ANN, ((ALL, (("drop",),) * 5),)), ("rule", ANN, ((ALL, [("drop",)]),)), ("rule", ANN, ([ALL, (("drop",),)],)),
    ("rule", ANN, ((one_deep(("auto",), 5), (("drop",),)),)), ("rule", ANN, ((("word", "a" * 13), (("drop",),)),)), ("rule", ANN, ((ALL, (("answer", "x" * 41),)),)),
    ("rule", ANN, ((ALL, (("answer", ""),)),)), ("rule", ANN, ((("longer", 10000), (("drop",),)),)), ("rule", ANN, ((("marked", "a"), (("drop",),)),)),
    ("rule", ZED, ()), ("rule", list(ANN), ()), ("rule", CID[::-1], ()),
    ("shut",), ("shut", "yew"), ("shut", ""), ("shut", None), ("shut", ("elm",)), ("shut", ["elm"]), ("shut", "elm", "oak"), ("wake", "yew"), ("wake", 0),
    ("cut", "elm"), ("cut", "elm", "elm"), ("cut", "elm", "yew"), ("cut", "yew", "elm"), ("cut", "elm", "oak", 1), ("cut", ["elm"], "oak"), ("cut", ("elm", "oak")),
    ("tie", "oak", "oak"), ("tie", "oak", None), ("tie", (), "oak"),
    ("file", BOB, 0), ("file", BOB, 0, "abcdefghi"), ("file", BOB, 0, ""), ("file", BOB, 0, "In"), ("file", BOB, 0, None), ("file", BOB, 9, "in"), ("file", BOB, -1, "in"),
    ("file", BOB, False, "in"), ("file", BOB, "0", "in"), ("file", BOB, (0,), "in"), ("file", ANN, 0, "in"), ("file", ZED, 0, "in"), ("file", list(BOB), 0, "in"),
    ("file", ANN, True, "in"), ("mark", BOB, 0, "a"), ("mark", BOB, 0, "a", 1), ("mark", BOB, 0, "a", 0), ("mark", BOB, 0, "a", None), ("mark", BOB, 0, "abcdefghi", True),
    ("mark", BOB, 0, "a", True, True), ("mark", BOB, None, "a", True), ("mark", CID, 0, "a", True), ("drop", BOB), ("drop", BOB, 0, "in"), ("drop", BOB, 1), ("drop", ANN, True),
    ("drop", [*ANN], 1), ("drop", ANN, 10 ** 20),
    ("share", BOB, "in", ANN), ("share", BOB, "in", ANN, None), ("share", BOB, "in", ANN, ["see"]), ("share", BOB, "in", ANN, ("see", "see")),
    ("share", BOB, "in", ANN, ("see", "read")), ("share", BOB, "in", ANN, ("see", ("see",))), ("share", BOB, "in", ANN, (["see"],)), ("share", BOB, "in", ANN, "see"),
    ("share", BOB, "in", ANN, ("see", "file", "mark", "drop", "drop")), ("share", BOB, "in", BOB, ("see",)), ("share", BOB, "in", CID, ("see",)),
    ("share", BOB, "in", ZED, ()), ("share", BOB, "abcdefghi", ANN, ()), ("share", BOB, "in", list(ANN), ()), ("share", ZED, "in", ANN, ()),
    ("term", BOB, "in"), ("term", BOB, "in", 0), ("term", BOB, "in", 401), ("term", BOB, "in", True), ("term", BOB, "in", False), ("term", BOB, "in", "1"),
    ("term", BOB, "", 1), ("term", BOB, "in", ()), ("term", ZED, "in", None), ("term", BOB, "in", 1, 1),
    ("hold",), ("hold", ALL), ("hold", None, None), ("hold", one_deep(("auto",), 5), None), ("hold", list(ALL), None), ("hold", ALL, ZED), ("hold", ALL, (ANN, ZED)),
    ("hold", ALL, [ANN]), ("hold", ALL, (list(ANN),)), ("hold", ALL, False), ("hold", ALL, ANN), ("hold", ALL, (None,)), ("hold", ALL, ""), ("hold", ("since", 0), None),
    ("release",), ("release", 1), ("release", -1), ("release", False), ("release", None), ("release", "0"), ("release", 0, 0), ("desk",), ("desk", ZED), ("desk", list(BOB)),
    ("desk", 1), ("desk", BOB, BOB), ("away", 1), ("away", 2, ("drop", 0)), ("away", 0, ("drop", 0)), ("away", True, ("drop", 0)), ("away", 1, ["drop", 0]),
    ("away", 1, ("drop", 1)), ("away", 1, ("drop", False)), ("away", 1, ("drop",)), ("away", 1, ("drop", 0, 0)), ("away", 1, ("file", 0)), ("away", 1, ("file", 0, "abcdefghi")),
    ("away", 1, ("file", 0, "in", "in")), ("away", 1, ("file", 9, "in")), ("away", 1, ("mark", 0, "a")), ("away", 1, ("mark", 0, "a", 1)), ("away", 1, ("mark", 0, "A", True)),
    ("away", 1, ("share", 0, "in")), ("away", 1, ("", 0)), ("away", 1, ()), ("away", 1, None), ("away", 1, (["drop"], 0)), ("away", 1, (0, "drop")), ("away", 1, "drop"),
    ("away", 1, ("drop", 0), None), ("away", "1", ("drop", 0)), ("meet",), ("meet", 2), ("meet", 0), ("meet", -1), ("meet", True), ("meet", None), ("meet", 1, 1),
]


class ShowsLog(unittest.TestCase):

    def test_of_each_halls_own_log_and_each_beginning(self):
        for at in range(len(LOG) + 1):
            self.assertIs(shows_log(PLAN, LOG[:at]), True)
        for seed in range(300, 312):
            walk = Walk(seed)
            for turn in range(60):
                walk.step()
            log = walk.hall.log()
            for at in range(len(log) + 1):
                self.assertIs(shows_log(walk.hall.plan, log[:at]), True)

    def test_right_entries(self):
        self.assertEqual({entry[0] for entry in RIGHT}, set(ARGUMENTS))
        for entry in RIGHT:
            self.assertIs(shows_log(PLAN, READY + [entry]), True, entry)
            self.assertIs(shows_log(PLAN, READY + [entry, ("tick", 1)]), True, entry)

    def test_wrong_entries(self):
        self.assertIs(shows_log(PLAN, READY), True)
        for entry in WRONG:
            self.assertIs(shows_log(PLAN, READY + [entry]), False, entry)
            self.assertIs(shows_log(PLAN, [entry] + READY), False, entry)
            self.assertIs(shows_log(PLAN, READY + [entry, ("tick", 1)]), False, entry)

    def test_what_would_be_refused_by_what_was_done_ahead(self):
        plain = ((house("elm", "ann bob", ways=("plain",)), house("oak", "cid", ways=("packed",))), (("elm", "oak", 1),))
        odd = sent(to=(CID,), body=("words", (0,)))
        self.assertIs(shows_log(plain, [odd]), False)
        self.assertIs(shows_log(plain, [("send", CID, (ANN,), "", ("words", (0,)), None)]), True)
        for log in ([("shut", "elm"), sent()], [("shut", "elm"), ("rule", ANN, ())], [("shut", "elm"), ("desk", ANN)], [("desk", ANN), ("shut", "elm"), ("meet", 1)],
                    READY + [("drop", BOB, 0), ("mark", BOB, 0, "a", True)], READY + [("release", 0), ("release", 0)],
                    READY + [("away", 1, ("drop", 0)), ("away", 1, ("drop", 0))], READY + [("share", BOB, "in", ANN, ("see",)), ("drop", ANN, 0)],
                    READY + [("share", BOB, "in", ANN, ("drop",)), ("drop", ANN, 0)], [("release", 0), ("hold", ALL, None)]):
            self.assertIs(shows_log(PLAN, log), False, log)
        for log in ([("shut", "elm"), ("wake", "elm"), sent()], READY + [("share", BOB, "in", ANN, ("see", "drop")), ("drop", ANN, 0)],
                    [("desk", ANN), ("shut", "elm"), ("wake", "elm"), ("meet", 1)], READY + [("drop", BOB, 0), ("away", 1, ("mark", 0, "a", True))],
                    [("hold", ALL, None), ("release", 0)]):
            self.assertIs(shows_log(PLAN, log), True, log)

    def test_one_thing_otherwise(self):
        """What is shown of a changed log is just what a hall to which it is done tells of it."""
        seen = {True: 0, False: 0}
        for log in variants(LOG):
            answer = shows_log(PLAN, log)
            seen[answer] += 1
            if answer:
                self.assertEqual(kinds(replayed(PLAN, log).log()), kinds(log))
        self.assertGreater(min(seen.values()), 50)

    def test_lists_where_tuples_stand_and_numbers_where_true_stands(self):
        swapped = [log for log in variants(LOG) if log == with_kinds_of(LOG, log)]
        self.assertGreater(len(swapped), 80)
        for log in swapped:
            self.assertNotEqual(kinds(log), kinds(LOG))
            self.assertIs(shows_log(PLAN, log), False)

    def test_how_many_deeds(self):
        self.assertIs(shows_log(PLAN, []), True)
        self.assertIs(shows_log(PLAN, [("wake", "elm")] * 300), True)
        self.assertIs(shows_log(PLAN, [("wake", "elm")] * 301), False)
        self.assertIs(shows_log(PLAN, READY * 100), True)
        self.assertIs(shows_log(PLAN, READY * 100 + [("tick", 1)]), False)

    def test_how_many_ticks(self):
        for log, answer in (([("tick", 50)] * 8, True), ([("tick", 50)] * 8 + [("tick", 1)], False), ([("tick", 50)] * 7 + [("tick", 49), ("tick", 1)], True),
                            ([("tick", 50)] * 7 + [("tick", 49), ("tick", 2)], False), ([("tick", 1)] * 300, True), ([("tick", 2)] * 200, True),
                            ([("tick", 2)] * 200 + [("wake", "elm")] * 100, True), ([("tick", 2)] * 201, False)):
            self.assertIs(shows_log(PLAN, log), answer)

    def test_of_things_of_any_kind(self):
        for thing in odd_things():
            self.assertIs(shows_log(PLAN, thing), kinds(thing) == kinds([]), thing)
            self.assertIs(shows_log(PLAN, [thing]), False)
            self.assertIs(shows_log(PLAN, [(thing,)]), False)
            for word, names in ARGUMENTS.items():
                if len(names) > 1:
                    self.assertIs(shows_log(PLAN, READY + [(word, *[thing] * len(names))]), False, word)
        for thing in (LOG[0], tuple(LOG), [LOG], (LOG,), [list(entry) for entry in LOG], LOG + [None], LOG + [[]], "log", [()], [""], [[]]):
            self.assertIs(shows_log(PLAN, thing), False)

    def test_odd_arguments_one_at_a_time(self):
        found = {}
        for entry in {entry[0]: entry for entry in RIGHT}.values():
            for at in range(1, len(entry)):
                for thing in odd_things():
                    if shows_log(PLAN, READY + [entry[:at] + (thing,) + entry[at + 1:]]):
                        found.setdefault((entry[0], at), []).append(thing)
        names = ["words", "ab"]
        self.assertEqual(kinds(list(found.items())), kinds(list({
            ("send", 3): ["", *names], ("send", 5): [0, None], ("rule", 2): [()], ("tick", 1): [1], ("file", 2): [0], ("file", 3): names,
            ("mark", 2): [0], ("mark", 3): names, ("mark", 4): [True, False], ("drop", 2): [1], ("share", 2): names, ("share", 4): [()],
            ("term", 2): names, ("term", 3): [1, None], ("hold", 2): [None, ()], ("release", 1): [0], ("away", 1): [1], ("meet", 1): [1]}.items())))

    def test_of_a_plan_that_is_none(self):
        for plan in (None, (), ((), ()), 0, "plan", (PLAN[0], PLAN[1] * 2), PLAN[:1], (PLAN[0] * 6, ())):
            for thing in ([], LOG, None):
                self.assertIs(shows_log(plan, thing), False)

    def test_a_plan_of_lists_is_the_plan(self):
        self.assertIs(shows_log(listed(PLAN), LOG), True)
        self.assertIs(shows_log(listed(PLAN), LOG + [("meet", 2)]), False)

    def test_of_another_plan(self):
        alone = ((house("elm", "ann"),), ())
        self.assertIs(shows_log(alone, LOG), False)
        self.assertIs(shows_log(alone, [("desk", ANN)]), True)
        self.assertIs(shows_log(alone, [("desk", EVE)]), False)

    def test_nothing_is_changed(self):
        log = [*LOG]
        ahead = kinds(log)
        shows_log(PLAN, log)
        self.assertEqual(kinds(log), ahead)
        hall = replayed(PLAN, LOG)
        calls = hall.calls()
        shows_log(PLAN, hall.log())
        self.assertEqual(hall.calls(), calls)


def with_kinds_of(thing, other):
    """The thing with lists and tuples as the other has them: == doesn't see the other kinds of numbers."""
    if isinstance(thing, (list, tuple)) and isinstance(other, (list, tuple)) and len(thing) == len(other):
        return type(other)(with_kinds_of(one, two) for one, two in zip(thing, other))
    return thing


if __name__ == "__main__":
    unittest.main()
