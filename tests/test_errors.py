"""The interface, letterhall/errors.py, and point [2]: the classes of refusals."""

import inspect
import unittest

from letterhall import errors

FIELDS = {
    ValueError: {"NoCode": ("place",), "BadLetter": ("row",), "BadPlan": ("plan",), "BadLine": ("line",)},
    LookupError: {"NoOne": ("address",), "NoHouse": ("house",), "NoLink": ("one", "other")},
    IndexError: {"NoLetter": ("number",), "NoCopy": ("copy",), "NoPiece": ("piece",), "NoHold": ("number",),
                 "NoDesk": ("number",), "NoDeed": ("many",)},
    RuntimeError: {"NoWay": (), "Shut": ("house",), "NoRight": ("word",)},
}
CLASSES = [(base, name, fields) for base, named in FIELDS.items() for name, fields in named.items()]


class Errors(unittest.TestCase):

    def test_there_are_just_these_sixteen(self):
        own = [name for name, made in vars(errors).items() if inspect.isclass(made)]
        self.assertEqual(sorted(own), sorted(name for base, name, fields in CLASSES))
        self.assertEqual(len(CLASSES), 16)

    def test_each_stands_straight_under_its_class(self):
        for base, name, fields in CLASSES:
            self.assertEqual(getattr(errors, name).__bases__, (base,), name)

    def test_made_by_place(self):
        for base, name, fields in CLASSES:
            worth = [("ann", "elm"), "oak"][:len(fields)]
            made = getattr(errors, name)(*worth)
            self.assertEqual(vars(made), dict(zip(fields, worth)), name)

    def test_made_by_name(self):
        for base, name, fields in CLASSES:
            worth = {field: 7 + at for at, field in enumerate(fields)}
            backward = dict(reversed(list(worth.items())))
            self.assertEqual(vars(getattr(errors, name)(**backward)), worth, name)

    def test_takes_no_more_and_no_less(self):
        for base, name, fields in CLASSES:
            made = getattr(errors, name)
            with self.assertRaises(TypeError):
                made(*range(len(fields) + 1))
            with self.assertRaises(TypeError):
                made(other_field=1)
            if fields:
                with self.assertRaises(TypeError):
                    made()

    def test_can_be_raised_and_shown(self):
        for base, name, fields in CLASSES:
            made = getattr(errors, name)
            with self.assertRaises(base) as caught:
                raise made(*[[1, (2, None)]] * len(fields))
            self.assertIs(type(caught.exception), made)
            self.assertIsInstance(str(caught.exception), str)


if __name__ == "__main__":
    unittest.main()
