"""Point [2], of a hall: how it may be asked, what asking leaves as it was, and which refusal goes first."""

import copy
import inspect
import itertools
import unittest

from letterhall.hall import Hall
from tests.halls import ALL, ANN, ARGUMENTS, BOB, CID, do, house, refused, replayed, send, three, told
from tests.samples import kinds, listed, words
from tests.test_told import LOG, PLAN

SIGNATURES = {
    "send": "(self, sender, to, about, body, *, answers=None)", "rule": "(self, who, rules)", "tick": "(self, *, many=1)",
    "shut": "(self, house)", "wake": "(self, house)", "cut": "(self, one, other)", "tie": "(self, one, other)",
    "file": "(self, who, piece, box)", "mark": "(self, who, piece, name, *, on=True)", "drop": "(self, who, piece)",
    "share": "(self, who, box, other, rights)", "term": "(self, who, box, ticks)", "hold": "(self, test, *, people=None)",
    "release": "(self, number)", "desk": "(self, who)", "away": "(self, number, deed)", "meet": "(self, number)",
    "boxes": "(self, who)", "pieces": "(self, who, owner, box)", "read": "(self, who, piece)", "threads": "(self, who, owner, box)",
    "find": "(self, who, query)", "held": "(self, number)", "desk_boxes": "(self, number)", "desk_pieces": "(self, number, box)",
    "desk_waits": "(self, number)", "now": "(self)", "is_awake": "(self, house)", "is_tied": "(self, one, other)", "letters": "(self)",
    "letter": "(self, number)", "copies": "(self, number)", "trail": "(self, copy)", "passed": "(self, copy)", "hops": "(self, copy)",
    "queue": "(self, house)", "on_link": "(self, one, other)", "rules_of": "(self, who)", "rights": "(self, owner, box)",
    "log": "(self, *, first=0)", "calls": "(self, *, first=0)", "twin": "(self)", "__len__": "(self)", "__eq__": "(self, other)",
}

# All asks with what they may be handed, by names, of a hall behind LOG.
ASKS = [
    ("boxes", {"who": ANN}), ("pieces", {"who": BOB, "owner": BOB, "box": "in"}), ("pieces", {"who": ANN, "owner": BOB, "box": "old"}),
    ("read", {"who": BOB, "piece": 5}), ("threads", {"who": BOB, "owner": BOB, "box": "in"}), ("find", {"who": BOB, "query": ("not", ("from", ANN))}),
    ("held", {"number": 0}), ("desk_boxes", {"number": 1}), ("desk_pieces", {"number": 1, "box": "in"}), ("desk_waits", {"number": 1}), ("now", {}),
    ("is_awake", {"house": "elm"}), ("is_tied", {"one": "oak", "other": "elm"}), ("letters", {}), ("letter", {"number": 0}),
    ("copies", {"number": 0}), ("copies", {"number": 1}), ("trail", {"copy": 2}), ("passed", {"copy": 1}), ("hops", {"copy": 2}),
    ("queue", {"house": "elm"}), ("on_link", {"one": "oak", "other": "elm"}), ("rules_of", {"who": BOB}), ("rights", {"owner": BOB, "box": "old"}),
    ("log", {"first": 3}), ("calls", {"first": 3}),
]


def ready():
    """A hall behind LOG, with copies in queues and on links, pieces, and a desk with deeds that wait."""
    hall = replayed(PLAN, LOG)
    hall.send(ANN, (CID,), "one", words("a"))
    hall.tick()
    hall.send(ANN, (CID, BOB), "two", words("b"))
    hall.send(CID, (CID,), "three", words("c"))
    hall.rule(BOB, ())
    hall.send(BOB, (BOB,), "four", words("d"))
    hall.meet(1)
    hall.away(1, ("mark", 5, "hot", True))
    return hall


class Shape(unittest.TestCase):

    def test_each_method_stands_in_the_class_itself(self):
        for name, told_signature in SIGNATURES.items():
            self.assertIn(name, vars(Hall))
            self.assertEqual(str(inspect.signature(vars(Hall)[name])), told_signature, name)
        self.assertEqual(str(inspect.signature(Hall)), "(plan)")
        self.assertEqual(Hall.__mro__, (Hall, object))

    def test_all_asks_are_asked_here(self):
        self.assertEqual({name for name, given in ASKS} | set(ARGUMENTS) | {"twin", "__len__", "__eq__"}, set(SIGNATURES))

    def test_behind_a_star_by_names_alone(self):
        hall = ready()
        for ask in (lambda: hall.send(ANN, (BOB,), "", words(""), None), lambda: hall.tick(1), lambda: hall.mark(BOB, 5, "x", True),
                    lambda: hall.hold(ALL, None), lambda: hall.log(0), lambda: hall.calls(0)):
            with self.assertRaises(TypeError):
                ask()


class Asking(unittest.TestCase):

    def test_by_names_in_any_order_and_by_place(self):
        hall = ready()
        for name, given in ASKS:
            ask = getattr(hall, name)
            ahead = kinds(ask(**given))
            for names in itertools.permutations(given):
                self.assertEqual(kinds(ask(**{one: given[one] for one in names})), ahead)
            if name not in ("log", "calls"):
                self.assertEqual(kinds(ask(*given.values())), ahead)

    def test_lists_for_tuples(self):
        hall = ready()
        for name, given in ASKS:
            ask = getattr(hall, name)
            handed = {one: listed(worth) for one, worth in given.items()}
            ahead = kinds(handed)
            self.assertEqual(kinds(ask(**handed)), kinds(ask(**given)), name)
            self.assertEqual(kinds(handed), ahead)

    def test_what_is_told_is_the_askers_own(self):
        hall = ready()
        whole = told(hall)
        lists = []
        for name, given in ASKS:
            ask = getattr(hall, name)
            first, second = ask(**given), ask(**given)
            ahead = kinds(first)
            self.assertEqual(kinds(second), ahead)
            if isinstance(first, list):
                lists.append(name)
                self.assertIsNot(first, second)
                first.append("more")
                first[0] = "other"
                self.assertEqual(kinds(second), ahead)
                self.assertEqual(kinds(ask(**given)), ahead)
                second.clear()
                self.assertEqual(kinds(ask(**given)), ahead)
        self.assertEqual(told(hall), whole)
        self.assertEqual(sorted(set(lists)), ["boxes", "calls", "copies", "desk_boxes", "desk_pieces", "desk_waits", "find", "held", "hops", "log",
                                              "on_link", "pieces", "queue", "rights", "threads", "trail"])

    def test_lists_within_what_is_told_are_tuples(self):
        hall = ready()
        for name, given in ASKS:
            answer = getattr(hall, name)(**given)
            inner = answer if isinstance(answer, list) else [answer]
            self.assertNotIn("'list'", repr([kinds(one) for one in inner]), name)

    def test_what_was_told_may_be_handed_in_again(self):
        hall = ready()
        again = replayed(hall.plan, hall.log())
        self.assertEqual(told(again), told(hall))
        again.rule(ANN, again.rules_of(BOB))
        again.away(1, hall.desk_waits(1)[0])
        again.send(ANN, (BOB,), "x", hall.letter(0)[1])
        for owner, box in again.boxes(BOB):
            again.pieces(BOB, owner, box)


class HandedIn(unittest.TestCase):

    def test_nothing_handed_in_is_changed_or_kept(self):
        for make in (listed, copy.deepcopy):
            hall = Hall(PLAN)
            for entry in LOG:
                handed = make(entry[1:])
                ahead = kinds(handed)
                do(hall, (entry[0], *handed))
                self.assertEqual(kinds(handed), ahead)
                spoil(handed)
            self.assertEqual(kinds(hall.log()), kinds(LOG))
            self.assertEqual(told(hall), told(replayed(PLAN, LOG)))

    def test_refused_with_lists(self):
        hall = ready()
        handed = ["zed", "elm"]
        with self.assertRaises(LookupError) as caught:
            hall.rule(handed, [])
        self.assertEqual(kinds(caught.exception.address), kinds(("zed", "elm")))
        handed.clear()
        self.assertEqual(caught.exception.address, ("zed", "elm"))
        self.assertEqual(refused(hall.share, list(ANN), "in", ["zed", "elm"], ["see"]), ("NoOne", ("zed", "elm")))
        self.assertEqual(refused(hall.hold, ALL, people=[["zed", "elm"]]), ("NoOne", ("zed", "elm")))
        self.assertEqual(refused(hall.boxes, ["zed", "elm"]), ("NoOne", ("zed", "elm")))

    def test_a_plan_as_it_was(self):
        ahead = kinds(PLAN)
        replayed(PLAN, LOG)
        self.assertEqual(kinds(PLAN), ahead)


def spoil(thing):
    """Empties all lists of a thing."""
    if isinstance(thing, (list, tuple)):
        for one in thing:
            spoil(one)
    if isinstance(thing, list):
        thing.clear()


class OrderOfRefusals(unittest.TestCase):

    def hall(self):
        """Elm is shut, oak isn't; bob has piece 0, cid piece 1; oak takes plain letters alone."""
        hall = Hall(((house("elm", "ann bob"), house("oak", "cid dan", ways=("plain",))), (("elm", "oak", 1),)))
        send(hall, ANN, BOB)
        send(hall, CID, CID)
        hall.desk(BOB)
        hall.shut("elm")
        return hall

    def test_each(self):
        zed, dan = ("zed", "elm"), ("dan", "oak")
        odd = ("words", (0,))
        for ask, told_refusal in (
                (lambda hall: hall.send(zed, (BOB,), "", odd, answers=9), ("NoOne", zed)),
                (lambda hall: hall.send(ANN, (BOB,), "", odd, answers=9), ("Shut", "elm")),
                (lambda hall: hall.send(CID, (BOB,), "", odd, answers=9), ("NoLetter", 9)),
                (lambda hall: hall.send(CID, (BOB,), "", odd, answers=0), ("NoWay",)),
                (lambda hall: hall.rule(zed, ()), ("NoOne", zed)), (lambda hall: hall.rule(ANN, ()), ("Shut", "elm")),
                (lambda hall: hall.cut("yew", "fir"), ("NoHouse", "yew")), (lambda hall: hall.tie("elm", "fir"), ("NoHouse", "fir")),
                (lambda hall: hall.tie("elm", "elm"), ("NoLink", "elm", "elm")), (lambda hall: hall.shut("fir"), ("NoHouse", "fir")),
                (lambda hall: hall.wake("fir"), ("NoHouse", "fir")),
                (lambda hall: hall.file(zed, 9, "in"), ("NoOne", zed)), (lambda hall: hall.file(ANN, 9, "in"), ("Shut", "elm")),
                (lambda hall: hall.file(ANN, 0, "in"), ("Shut", "elm")), (lambda hall: hall.file(dan, 9, "in"), ("NoPiece", 9)),
                (lambda hall: hall.file(dan, 1, "in"), ("NoPiece", 1)), (lambda hall: hall.file(dan, 0, "in"), ("NoPiece", 0)),
                (lambda hall: hall.mark(zed, 9, "x"), ("NoOne", zed)), (lambda hall: hall.mark(ANN, 9, "x"), ("Shut", "elm")),
                (lambda hall: hall.mark(dan, 1, "x", on=False), ("NoPiece", 1)), (lambda hall: hall.drop(zed, 9), ("NoOne", zed)),
                (lambda hall: hall.drop(ANN, 0), ("Shut", "elm")), (lambda hall: hall.drop(dan, 1), ("NoPiece", 1)),
                (lambda hall: hall.share(zed, "in", zed, ()), ("NoOne", zed)), (lambda hall: hall.share(("yan", "elm"), "in", zed, ()), ("NoOne", ("yan", "elm"))),
                (lambda hall: hall.share(ANN, "in", zed, ()), ("Shut", "elm")), (lambda hall: hall.share(CID, "in", zed, ()), ("NoOne", zed)),
                (lambda hall: hall.share(CID, "in", BOB, ()), ("NoOne", BOB)), (lambda hall: hall.term(zed, "in", 1), ("NoOne", zed)),
                (lambda hall: hall.term(ANN, "in", 1), ("Shut", "elm")), (lambda hall: hall.desk(zed), ("NoOne", zed)),
                (lambda hall: hall.desk(ANN), ("Shut", "elm")), (lambda hall: hall.away(2, ("drop", 9)), ("NoDesk", 2)),
                (lambda hall: hall.away(1, ("drop", 9)), ("NoPiece", 9)), (lambda hall: hall.away(1, ("drop", 1)), ("NoPiece", 1)),
                (lambda hall: hall.meet(2), ("NoDesk", 2)), (lambda hall: hall.meet(1), ("Shut", "elm")),
                (lambda hall: hall.release(0), ("NoHold", 0)), (lambda hall: hall.hold(ALL, people=(BOB, zed, dan, ("yan", "elm"))), ("NoOne", zed))):
            hall = self.hall()
            ahead, calls = told(hall), hall.calls()
            self.assertEqual(refused(ask, hall), told_refusal)
            self.assertEqual(told(hall), ahead)
            self.assertEqual((len(hall.calls()), hall.calls()[:-2]), (len(calls) + 2, calls))

    def test_asks(self):
        hall = self.hall()
        zed, yan = ("zed", "elm"), ("yan", "elm")
        calls = hall.calls()
        for ask, told_refusal in ((lambda: hall.pieces(zed, yan, "in"), ("NoOne", zed)), (lambda: hall.pieces(ANN, yan, "in"), ("NoOne", yan)),
                                  (lambda: hall.pieces(ANN, BOB, "in"), ("NoRight", "see")), (lambda: hall.threads(zed, yan, "in"), ("NoOne", zed)),
                                  (lambda: hall.threads(ANN, yan, "in"), ("NoOne", yan)), (lambda: hall.threads(CID, BOB, "in"), ("NoRight", "see")),
                                  (lambda: hall.read(zed, 9), ("NoOne", zed)), (lambda: hall.read(ANN, 9), ("NoPiece", 9)),
                                  (lambda: hall.read(ANN, 0), ("NoPiece", 0)), (lambda: hall.on_link("yew", "fir"), ("NoHouse", "yew")),
                                  (lambda: hall.is_tied("oak", "fir"), ("NoHouse", "fir")), (lambda: hall.is_tied("oak", "oak"), ("NoLink", "oak", "oak"))):
            self.assertEqual(refused(ask), told_refusal)
        self.assertEqual(hall.calls(), calls)

    def test_beyond_the_bounds_no_error_comes(self):
        hall = three()
        self.assertEqual(hall.tick(many=60), 60)
        self.assertEqual(hall.tick(many=400), 460)


if __name__ == "__main__":
    unittest.main()
