"""Point [2] and the interface, over replays, papers, texts and the sheet, and over the names of the whole program."""

import ast
import copy
import importlib
import inspect
import itertools
import unittest

from letterhall import papers, replays, sheet, texts
from letterhall.hall import Hall
from tests.halls import replayed, told
from tests.samples import PLAN as SMALL_PLAN
from tests.samples import kinds, listed, tupled
from tests.test_errors import CLASSES
from tests.test_hall_promises import SIGNATURES as METHODS
from tests.test_hall_promises import ready
from tests.test_language import FOLDER, INTERFACE, VALUES
from tests.test_promises import SIGNATURES as FUNCTIONS
from tests.test_told import LOG, PLAN

SIGNATURES = {
    replays.replay: "(plan, log)", replays.as_of: "(hall, many)", replays.shows_log: "(plan, thing)",
    papers.fate_paper: "(hall, number)", papers.shows_fate: "(hall, number, thing)", papers.hall_paper: "(hall)", papers.shows_hall: "(hall, thing)",
    papers.way_paper: "(hall, copy)", papers.shows_way: "(hall, copy, thing)", papers.desk_paper: "(hall, number)", papers.shows_desk: "(hall, number, thing)",
    texts.plan_text: "(plan)", texts.plan_in: "(text)", sheet.run: "(text)",
}
TEXT = texts.plan_text(PLAN)
SHEET = TEXT + "\nbegin\nsend ann@elm all@elm,zed@oak tea a_b\ntick 3\nwhere 0\nbox bob@elm in\nshut oak\nnow"


def asks():
    """Each function with all that it's handed, by its names."""
    hall = ready()
    return [
        (replays.replay, {"plan": PLAN, "log": LOG}), (replays.as_of, {"hall": hall, "many": 5}), (replays.as_of, {"hall": hall, "many": 0}),
        (replays.shows_log, {"plan": PLAN, "thing": LOG}), (replays.shows_log, {"plan": PLAN, "thing": LOG[1:]}),
        (papers.fate_paper, {"hall": hall, "number": 0}), (papers.shows_fate, {"hall": hall, "number": 0, "thing": papers.fate_paper(hall, 0)}),
        (papers.shows_fate, {"hall": hall, "number": 1, "thing": papers.fate_paper(hall, 0)}), (papers.hall_paper, {"hall": hall}),
        (papers.shows_hall, {"hall": hall, "thing": papers.hall_paper(hall)}), (papers.way_paper, {"hall": hall, "copy": 2}),
        (papers.shows_way, {"hall": hall, "copy": 2, "thing": papers.way_paper(hall, 2)}), (papers.desk_paper, {"hall": hall, "number": 1}),
        (papers.shows_desk, {"hall": hall, "number": 1, "thing": papers.desk_paper(hall, 1)}), (texts.plan_text, {"plan": SMALL_PLAN}), (texts.plan_in, {"text": TEXT}),
        (sheet.run, {"text": SHEET}),
    ]


def refusals():
    hall = ready()
    return [
        (replays.replay, {"plan": (), "log": [("nod",)]}, "BadPlan", {"plan": ()}), (replays.replay, {"plan": PLAN, "log": [("meet", 1)]}, "NoDesk", {"number": 1}),
        (replays.as_of, {"hall": hall, "many": 400}, "NoDeed", {"many": 400}), (papers.fate_paper, {"hall": hall, "number": 400}, "NoLetter", {"number": 400}),
        (papers.shows_fate, {"hall": hall, "number": 400, "thing": None}, "NoLetter", {"number": 400}), (papers.way_paper, {"hall": hall, "copy": 400}, "NoCopy", {"copy": 400}),
        (papers.shows_way, {"hall": hall, "copy": 400, "thing": None}, "NoCopy", {"copy": 400}), (papers.desk_paper, {"hall": hall, "number": 400}, "NoDesk", {"number": 400}),
        (papers.shows_desk, {"hall": hall, "number": 400, "thing": None}, "NoDesk", {"number": 400}), (texts.plan_in, {"text": "x"}, "BadLine", {"line": 0}),
        (sheet.run, {"text": "begin"}, "BadLine", {"line": 1}),
    ]


def shown(answer):
    """What was told, kind by kind, of a hall all that it tells."""
    return (told(answer), kinds(answer.calls())) if isinstance(answer, Hall) else kinds(answer)


def halls_in(given):
    return [worth for worth in given.values() if isinstance(worth, Hall)]


def lists_in(thing):
    """All lists in a thing, however deep."""
    inner = [found for one in thing for found in lists_in(one)] if isinstance(thing, (list, tuple)) else []
    return inner + [thing] if isinstance(thing, list) else inner


class Interface(unittest.TestCase):

    def test_each_name_is_asked_here_or_beside(self):
        asked = {ask.__name__ for ask in (*SIGNATURES, *FUNCTIONS)} | {"Hall"} | {name for base, name, fields in CLASSES}
        self.assertEqual(asked, {name for names in INTERFACE.values() for name in names})
        self.assertEqual({ask for ask, given in asks()}, set(SIGNATURES))

    def test_each_stands_in_its_file(self):
        for file, names in INTERFACE.items():
            module = importlib.import_module("letterhall." + file)
            tree = ast.parse((FOLDER / (file + ".py")).read_text())
            for name in names:
                self.assertEqual(getattr(module, name).__module__, "letterhall." + file)
                self.assertIn(name, [node.name for node in tree.body if isinstance(node, (ast.FunctionDef, ast.ClassDef))])
        for file, names in VALUES.items():
            for name in names:
                self.assertTrue(hasattr(importlib.import_module("letterhall." + file), name))

    def test_arguments_are_called_as_told(self):
        for ask, signature in SIGNATURES.items():
            self.assertEqual(str(inspect.signature(ask)), signature, ask)
        for name in METHODS:
            self.assertIn(name, vars(Hall))


class Asking(unittest.TestCase):

    def test_by_place_and_by_names_in_any_order(self):
        for ask, given in asks():
            ahead = shown(ask(*given.values()))
            for names in itertools.permutations(given):
                self.assertEqual(shown(ask(**{name: given[name] for name in names})), ahead)

    def test_refused_by_place_and_by_names(self):
        for ask, given, name, fields in refusals():
            for handed in (given, dict(reversed(given.items()))):
                with self.assertRaises((ValueError, LookupError)) as caught:
                    ask(**handed)
                self.assertEqual((type(caught.exception).__name__, vars(caught.exception)), (name, fields))
            with self.assertRaises(type(caught.exception)):
                ask(*given.values())

    def test_lists_for_tuples_and_tuples_for_lists(self):
        for ask, given in asks():
            ahead = shown(ask(**given))
            for make in (listed, tupled):
                handed = {name: make(worth) for name, worth in given.items()}
                if ask == replays.replay:
                    handed["plan"] = given["plan"]
                if "thing" in given:
                    handed["thing"] = given["thing"]
                self.assertEqual(shown(ask(**handed)), ahead, ask)

    def test_what_is_handed_in_is_neither_changed_nor_kept(self):
        for ask, given in asks():
            handed = {name: worth if isinstance(worth, Hall) else copy.deepcopy(worth) for name, worth in given.items()}
            if ask == replays.replay:
                handed["log"] = listed(handed["log"])
            if ask == texts.plan_text:
                handed["plan"] = listed(handed["plan"])
            ahead = {name: shown(worth) for name, worth in handed.items()}
            answer = ask(**handed)
            self.assertEqual({name: shown(worth) for name, worth in handed.items()}, ahead, ask)
            behind = shown(answer)
            for worth in handed.values():
                for one in lists_in(worth):
                    one.clear()
            self.assertEqual(shown(answer), behind, ask)

    def test_refusals_leave_a_hall_as_it_is(self):
        for ask, given, name, fields in refusals():
            ahead = [shown(hall) for hall in halls_in(given)]
            with self.assertRaises((ValueError, LookupError)):
                ask(**given)
            self.assertEqual([shown(hall) for hall in halls_in(given)], ahead)

    def test_what_is_told_is_the_askers_own(self):
        for ask, given in asks():
            first, second = ask(**given), ask(**given)
            ahead = shown(first)
            self.assertEqual(shown(second), ahead)
            every = lists_in(first) + lists_in(second)
            self.assertEqual(len({id(one) for one in every}), len(every), ask)
            if isinstance(first, Hall):
                self.assertIsNot(first, second)
                first.tick()
            for one in lists_in(first):
                one.append("more")
            self.assertEqual(shown(second), ahead)
            self.assertEqual(shown(ask(**given)), ahead)

    def test_what_was_told_may_be_handed_in_again(self):
        hall = ready()
        self.assertIs(replays.shows_log(hall.plan, replays.replay(hall.plan, hall.log()).log()), True)
        self.assertEqual(texts.plan_text(texts.plan_in(TEXT)), TEXT)
        self.assertEqual(told(replays.replay(texts.plan_in(TEXT), hall.log())), told(hall))
        again = replays.as_of(hall, len(hall.log()))
        self.assertIs(papers.shows_hall(again, papers.hall_paper(hall)), True)
        self.assertIs(papers.shows_desk(again, 1, papers.desk_paper(hall, 1)), True)

    def test_a_paper_of_more_than_six_thousand_things(self):
        hall = replayed(PLAN, LOG)
        for turn in range(270):
            hall.send(("ann", "elm"), (("all", "elm"), ("zed", "elm"), ("cid", "oak"), ("bob", "elm")), "x", ("words", ()))
        paper = papers.hall_paper(hall)
        self.assertGreater(len(repr(paper)), 60000)
        self.assertIs(papers.shows_hall(hall, paper), True)
        last = paper[-1]
        paper[-1] = last[:-1] + [(*last[-1][:3], ("failed",))]
        self.assertIs(papers.shows_hall(hall, paper), False)


if __name__ == "__main__":
    unittest.main()
