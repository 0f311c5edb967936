"""Point [2], of each function: how it may be asked, and what asking leaves as it was."""

import copy
import inspect
import itertools
import unittest

from letterhall import codes, letters, plans, queries, routes, rules
from letterhall.errors import BadLetter, NoCode, NoWay
from tests.samples import PLAN, kinds, listed, part, parts, signs, tupled

LETTER = ((("to", "x" * 61), ("by", "")), parts(part("a=b\n-0"), ((), parts(((), ("words", (0, 10, 65535)))))))
TEST = ("both", ("not", ("from", ("ann", "elm"))), ("any", ("word", "b"), ("auto",)))
RULES = ((TEST, (("on", ("ann", "elm")), ("file", "old"), ("answer", "x"))), (("longer", 0), (("mark", "hot"),)))
ROWS = codes.coded(signs("a=b"), "marked")

# Each function with all that it may be handed, by its names.
ASKS = [
    (codes.coded, {"writing": signs("ab\n"), "way": "plain"}),
    (codes.coded, {"writing": (0, 61, 10) * 30, "way": "marked"}),
    (codes.coded, {"writing": (0, 61, 10) * 30, "way": "packed"}),
    (codes.written, {"rows": ROWS, "way": "marked"}),
    (codes.written, {"rows": ROWS, "way": "plain"}),
    (codes.written, {"rows": ["AAA"], "way": "packed"}),
    (codes.written, {"rows": ["AA"], "way": "packed"}),
    (codes.best_way, {"writing": signs("a=b"), "ways": ("packed", "marked")}),
    (codes.best_way, {"writing": (0, 1, 2, 3), "ways": ("packed", "plain")}),
    (letters.letter_rows, {"letter": LETTER, "ways": ("packed", "marked")}),
    (letters.letter_text, {"letter": LETTER, "ways": ("packed", "marked")}),
    (letters.read_letter, {"text": letters.letter_text(LETTER)}),
    (letters.is_body, {"thing": LETTER[1]}),
    (letters.is_letter, {"thing": LETTER}),
    (plans.is_address, {"thing": ("ann", "elm")}),
    (plans.is_plan, {"thing": PLAN}),
    (routes.next_house, {"plan": PLAN, "house": "elm", "goal": "oak"}),
    (routes.next_house, {"plan": PLAN, "house": "elm", "goal": "yew"}),
    (routes.reached, {"plan": PLAN, "address": ("all", "elm")}),
    (rules.is_test, {"thing": TEST}),
    (rules.is_rules, {"thing": RULES}),
    (rules.words_of, {"letter": LETTER}),
    (rules.holds, {"test": TEST, "letter": LETTER}),
    (rules.judged, {"rules": RULES, "letter": LETTER}),
    (queries.is_query, {"thing": TEST}),
]
REFUSED = [
    (codes.coded, {"writing": (0,), "way": "plain"}, NoCode),
    (letters.letter_rows, {"letter": LETTER, "ways": ("plain",)}, NoWay),
    (letters.letter_text, {"letter": LETTER, "ways": ("plain",)}, NoWay),
    (letters.read_letter, {"text": "\nwords plain"}, BadLetter),
]
SIGNATURES = {
    codes.coded: "(writing, way)",
    codes.written: "(rows, way)",
    codes.best_way: "(writing, *, ways=('plain', 'marked', 'packed'))",
    letters.is_body: "(thing)",
    letters.is_letter: "(thing)",
    letters.letter_rows: "(letter, *, ways=('plain', 'marked', 'packed'))",
    letters.letter_text: "(letter, *, ways=('plain', 'marked', 'packed'))",
    letters.read_letter: "(text)",
    plans.is_address: "(thing)",
    plans.is_plan: "(thing)",
    routes.next_house: "(plan, house, goal)",
    routes.reached: "(plan, address)",
    rules.is_test: "(thing)",
    rules.is_rules: "(thing)",
    rules.words_of: "(letter)",
    rules.holds: "(test, letter)",
    rules.judged: "(rules, letter)",
    queries.is_query: "(thing)",
}


def by_place(ask, given):
    """What is told where all but ways is handed in by place."""
    named = {name: worth for name, worth in given.items() if name == "ways"}
    return ask(*[worth for name, worth in given.items() if name != "ways"], **named)


class Promises(unittest.TestCase):

    def test_each_function_is_asked_here(self):
        self.assertEqual({ask for ask, given in ASKS}, set(SIGNATURES))

    def test_arguments_are_called_as_told(self):
        for ask, told in SIGNATURES.items():
            self.assertEqual(str(inspect.signature(ask)), told, ask)

    def test_by_place_and_by_names_in_any_order(self):
        for ask, given in ASKS:
            told = kinds(by_place(ask, given))
            for names in itertools.permutations(given):
                self.assertEqual(kinds(ask(**{name: given[name] for name in names})), told)

    def test_ways_by_name_alone(self):
        for ask in (codes.best_way, letters.letter_rows, letters.letter_text):
            with self.assertRaises(TypeError):
                ask((), ())

    def test_lists_for_tuples_and_tuples_for_lists(self):
        for ask, given in ASKS:
            if not ask.__name__.startswith("is_"):
                told = kinds(ask(**given))
                self.assertEqual(kinds(ask(**{name: listed(worth) for name, worth in given.items()})), told)
                self.assertEqual(kinds(ask(**{name: tupled(worth) for name, worth in given.items()})), told)
        for ask, given, error in REFUSED:
            with self.assertRaises(error) as first:
                ask(**given)
            with self.assertRaises(error) as second:
                ask(**{name: listed(worth) for name, worth in given.items()})
            self.assertEqual(vars(first.exception), vars(second.exception))

    def test_what_is_handed_in_is_as_it_was(self):
        for make in (listed, tupled, copy.deepcopy):
            for ask, given in ASKS:
                handed = {name: make(worth) for name, worth in given.items()}
                ahead = {name: kinds(worth) for name, worth in handed.items()}
                ask(**handed)
                self.assertEqual({name: kinds(worth) for name, worth in handed.items()}, ahead)
            for ask, given, error in REFUSED:
                handed = {name: make(worth) for name, worth in given.items()}
                ahead = {name: kinds(worth) for name, worth in handed.items()}
                with self.assertRaises(error):
                    ask(**handed)
                self.assertEqual({name: kinds(worth) for name, worth in handed.items()}, ahead)

    def test_what_is_handed_in_is_not_kept(self):
        for ask, given in ASKS:
            handed = {name: listed(worth) for name, worth in given.items()}
            told = ask(**handed)
            ahead = kinds(told)
            for worth in handed.values():
                if isinstance(worth, list):
                    for inner in worth:
                        if isinstance(inner, list):
                            inner.clear()
                    worth.clear()
            self.assertEqual(kinds(told), ahead)
            if not ask.__name__.startswith("is_"):
                self.assertEqual(kinds(ask(**given)), ahead)

    def test_told_lists_are_the_askers_own(self):
        lists = 0
        for ask, given in ASKS:
            first = ask(**given)
            ahead = kinds(first)
            second = ask(**given)
            self.assertEqual(kinds(second), ahead)
            if isinstance(first, list):
                lists += 1
                self.assertIsNot(first, second)
                first.append("more")
                first[0] = "other"
                self.assertEqual(kinds(second), ahead)
                self.assertEqual(kinds(ask(**given)), ahead)
        self.assertEqual(lists, 5)

    def test_what_was_told_may_be_handed_in_again(self):
        rows = letters.letter_rows(LETTER)
        letter = letters.read_letter("\n".join(rows))
        self.assertEqual(letters.letter_rows(letter), rows)
        self.assertEqual(codes.written(tuple(codes.coded((1, 2), "packed")), "packed"), (1, 2))

    def test_beyond_the_bounds_no_error_comes(self):
        codes.coded((97, 10) * 400, "plain")
        for way in ("marked", "packed"):
            codes.coded((0, 65536, -1, 5) * 99, way)
        self.assertIn(codes.best_way((0, 65536, -1, 5) * 99), codes.WAYS)
        deep = part("x")
        for k in range(5):
            deep = ((("abcdefghij", "y" * 400),) * 70, parts(*[deep] * 5)) if k < 2 else ((), parts(deep))
        letters.letter_text(deep)
        letters.letter_rows(((), parts()))
        rules.words_of(deep)
        test = ("auto",)
        for k in range(9):
            test = ("not", ("any", test, ("longer", 20000)))
        rules.holds(test, deep)
        rules.judged(((test, (("drop",),) * 9),) * 9, deep)


if __name__ == "__main__":
    unittest.main()
