"""Point [21]: plans as texts."""

import random
import re
import unittest

from letterhall.codes import WAYS
from letterhall.errors import BadLine
from letterhall.plans import is_plan
from letterhall.texts import plan_in, plan_text
from tests.halls import Walk
from tests.samples import PLAN, kinds, listed

TEXT = """house elm 400 plain marked
one ann
one bob
list all ann@elm cid@oak
house oak 9000 plain marked packed
one cid
link elm oak 2"""

NAME = "[a-z]{1,8}"
NUMBER = "(?:0|[1-9][0-9]{0,5})"
SORTS = {
    "house": re.compile("house (%s) (%s)((?: (?:plain|marked|packed))+)" % (NAME, NUMBER)),
    "one": re.compile("one (%s)" % NAME),
    "list": re.compile("list (%s)((?: %s@%s)+)" % (NAME, NAME, NAME)),
    "link": re.compile("link (%s) (%s) (%s)" % (NAME, NAME, NUMBER)),
}


def plain_reading(rows):
    """What rows come to, told once more: the plan's houses and links, or the number of the first row that can't stand."""
    houses, links = [], []
    for at, row in enumerate(rows):
        word = row.split(" ")[0]
        found = SORTS[word].fullmatch(row) if word in SORTS else None
        if found is None or links and word != "link" or not houses and word != "house" or word == "one" and houses[-1][2]:
            return at
        if word == "house":
            houses.append([found[1], [], [], tuple(found[3].split()), int(found[2])])
        elif word == "one":
            houses[-1][1].append(found[1])
        elif word == "list":
            houses[-1][2].append((found[1], tuple(tuple(one.split("@")) for one in found[2].split())))
        else:
            links.append((found[1], found[2], int(found[3])))
    plan = (tuple((name, tuple(people), tuple(lists), ways, most) for name, people, lists, ways, most in houses), tuple(links))
    return plan if is_plan(plan) else len(rows)


def line_of(text):
    """The number with which a text is refused, None where it isn't."""
    try:
        plan_in(text)
    except BadLine as error:
        return error.line
    return None


class PlanText(unittest.TestCase):

    def test_row_by_row(self):
        self.assertEqual(plan_text(PLAN), TEXT)
        self.assertEqual(plan_text(((("a", ("b",), (), ("packed",), 9000),), ())), "house a 9000 packed\none b")

    def test_all_links_behind_all_houses_in_order(self):
        houses = tuple((name, (name,), (("x", ((name, "no"),)), ("y", (("y", name), ("x", name)))), WAYS[at % 3:], 400 + at)
                       for at, name in enumerate(("a", "b", "c")))
        plan = (houses, (("c", "a", 4), ("a", "b", 1)))
        self.assertTrue(is_plan(plan))
        self.assertEqual(plan_text(plan), "\n".join([
            "house a 400 plain marked packed", "one a", "list x a@no", "list y y@a x@a", "house b 401 marked packed", "one b", "list x b@no", "list y y@b x@b",
            "house c 402 packed", "one c", "list x c@no", "list y y@c x@c", "link c a 4", "link a b 1"]))
        self.assertEqual(kinds(plan_in(plan_text(plan))), kinds(plan))

    def test_lists_for_tuples(self):
        handed = listed(PLAN)
        self.assertEqual(plan_text(handed), TEXT)
        self.assertEqual(kinds(handed), kinds(listed(PLAN)))

    def test_of_the_most_rows_and_signs(self):
        names = [letter * 8 for letter in "abcde"]
        houses = tuple((name, tuple(letter * 8 for letter in "ijkl"), tuple((letter * 8, tuple((letter * 8, one) for one in names[:4])) for letter in "xyz"),
                        WAYS, 9000) for name in names)
        links = tuple((names[one], names[other], 4) for one in range(4) for other in range(one + 1, 5))[:8]
        plan = (houses, links)
        self.assertTrue(is_plan(plan))
        rows = plan_text(plan).split("\n")
        self.assertLessEqual(len(rows), 60)
        self.assertLessEqual(max(len(row) for row in rows), 120)
        self.assertEqual(kinds(plan_in("\n".join(rows))), kinds(plan))


class PlanIn(unittest.TestCase):

    def test_it_is_the_plan_of_tuples_throughout(self):
        self.assertEqual(kinds(plan_in(TEXT)), kinds(PLAN))
        for seed in range(600, 800):
            plan = Walk(seed).hall.plan
            self.assertEqual(kinds(plan_in(plan_text(plan))), kinds(plan))

    def test_names_like_the_words_of_rows(self):
        plan = ((("house", ("one", "link", "begin"), (("list", (("one", "house"), ("list", "link"), ("post", "post"))),), ("plain",), 400),
                 ("link", ("house",), (("plain", (("plain", "packed"),)),), ("packed",), 500), ("list", ("list",), (), WAYS, 600),
                 ("one", ("one",), (), WAYS, 600), ("post", ("plain",), (), WAYS, 600)), (("link", "house", 1), ("list", "one", 2)))
        self.assertTrue(is_plan(plan))
        text = plan_text(plan)
        self.assertIn("one one\none link\none begin\nlist list one@house list@link post@post\nhouse link 500 packed\n", text)
        self.assertEqual(kinds(plan_in(text)), kinds(plan))

    def test_refusals_are_of_their_class(self):
        with self.assertRaises(ValueError) as caught:
            plan_in("")
        self.assertIs(type(caught.exception), BadLine)
        self.assertEqual(vars(caught.exception), {"line": 0})

    def test_no_sign_and_bare_rows(self):
        rows = TEXT.split("\n")
        for text, line in (("", 0), ("\n", 0), ("\n" + TEXT, 0), (TEXT + "\n", 7), (TEXT + "\n\n", 7), (" ", 0)):
            self.assertEqual(line_of(text), line)
        for at in range(len(rows)):
            self.assertEqual(line_of("\n".join(rows[:at] + [""] + rows[at:])), at)

    def test_rows_that_are_not_so_written(self):
        rows = TEXT.split("\n")
        wrong = {
            0: ["houses elm 400 plain", "House elm 400 plain", "house elm 400", "house elm", "house", "house elm plain", "house elm 400 plain packd", "house elm 400 Plain",
                "house elm 0400 plain", "house elm 00 plain", "house elm 1000000 plain", "house elm 4000000 plain", "house elm +400 plain", "house elm -400 plain",
                "house elm 400. plain", "house elm 4_0 plain", "house Elm 400 plain", "house elmelmelm 400 plain", "house el1 400 plain", "house  elm 400 plain",
                " house elm 400 plain", "house elm 400 plain ", "house elm  400 plain", "house elm 400  plain", "house elm 400 plain  marked", "house elm 400 plain,marked",
                "house\telm 400 plain", "house ann@elm 400 plain", "house 400 elm plain", "house elm 400 400 plain", "house elm 400 plain 400", "begin", "elm", "#", "400"],
            1: ["one", "one ", "one  ann", " one ann", "one ann ", "one ann bob", "one Ann", "one ann@elm", "one annannann", "one a1", "One ann", "ones ann", "ann", "one 1"],
            3: ["list all", "list", "list all ", "list all ann", "list all ann@", "list all @elm", "list all ann@elm@oak", "list all ann@elm,cid@oak", "list all  ann@elm",
                "list all ann@elm ", " list all ann@elm", "list all ann@elm  cid@oak", "list ann@elm cid@oak", "list All ann@elm", "list all ann@Elm", "list allallall ann@elm",
                "list all annannann@elm", "list all ann@elmelmelm", "list all ann elm", "list all ann@elm cid", "lists all ann@elm", "list all ann.elm", "list all@elm"],
            6: ["link elm oak", "link elm", "link", "link elm oak 02", "link elm oak 2 ", " link elm oak 2", "link  elm oak 2", "link elm oak  2", "link elm oak 2 2",
                "link elm oak x", "link elm 2 oak", "link elm oak 1234567", "link Elm oak 2", "link elm oakoakoak 2", "link elm oak -2", "links elm oak 2", "link elm@oak 2",
                "link elm oak 2.", "LINK elm oak 2", "tick 1", "send"],
        }
        for at, others in wrong.items():
            for row in others:
                self.assertEqual(line_of("\n".join(rows[:at] + [row] + rows[at + 1:])), at, row)
                self.assertEqual(plain_reading(rows[:at] + [row] + rows[at + 1:]), at)
                # Ahead of any other that is refused for what stands in it.
                self.assertEqual(line_of("\n".join(rows[:at] + [row, "no row", ""])), at, row)

    def test_rows_where_none_of_their_sort_can_stand(self):
        for text, line in (("one ann", 0), ("list all ann@elm", 0), ("link elm oak 1", 0), ("one ann\nhouse elm 400 plain", 0),
                           ("house elm 400 plain\nlist all ann@elm\none ann", 2), ("house elm 400 plain\none ann\nlist all ann@elm\none bob\nlist few ann@elm", 3),
                           ("house elm 400 plain\none ann\nlink elm oak 1\nhouse oak 400 plain\none bob", 3),
                           ("house elm 400 plain\none ann\nlink elm oak 1\none bob", 3), ("house elm 400 plain\none ann\nlink elm oak 1\nlist all ann@elm", 3),
                           ("house elm 400 plain\nlink elm oak 1\none ann", 2)):
            self.assertEqual(line_of(text), line, text)
            self.assertEqual(plain_reading(text.split("\n")), line)
        # Behind the next house people can stand once more.
        plan_in("house elm 400 plain\none ann\nlist all ann@elm\nhouse oak 400 plain\none bob\nlist few ann@elm\nlist all ann@elm")

    def test_no_plan_by_the_count_of_rows(self):
        house = "house elm 400 plain\none ann"
        two = house + "\nhouse oak 400 plain\none bob"
        for text in ("house elm 400 plain", "house elm 400 plain\nlist all ann@elm", "house elm 399 plain\none ann", "house elm 9001 plain\none ann",
                     "house elm 0 plain\none ann", "house elm 999999 plain\none ann", "house elm 400 plain plain\none ann", "house elm 400 marked plain\none ann",
                     "house elm 400 plain marked packed plain\none ann", house + "\none ann", house + "\nlist ann ann@elm", house + "\nlist post ann@elm",
                     house + "\none post", house + "\none b\none c\none d\none e", house + "".join("\nlist " + name + " ann@elm" for name in "wxyz"),
                     house + "\nlist all a@b a@b", house + "\nlist all a@b c@d e@f g@h i@j", house + "\n" + house, house + "\nlink elm oak 1", house + "\nlink elm elm 1",
                     two + "\nlink elm oak 0", two + "\nlink elm oak 5", two + "\nlink elm oak 999999", two + "\nlink elm oak 1\nlink oak elm 1", two + "\nlink elm ash 1",
                     "\n".join("house %s 400 plain\none a" % name for name in "abcdef"), two + "\nhouse ash 400 plain"):
            self.assertEqual(line_of(text), text.count("\n") + 1, text)
            self.assertEqual(plain_reading(text.split("\n")), text.count("\n") + 1)
        # Other signs than these are none of [2]'s, but no figures either.
        self.assertEqual(line_of("house elm 40\u0660 plain\none ann"), 0)

    def test_rows_go_ahead_of_the_plan(self):
        """A row that can't stand is told though the plan ahead of it is none."""
        self.assertEqual(line_of("house elm 1 plain plain\nlink elm elm 9\nlink elm elm"), 2)

    def test_texts_with_chance(self):
        chance = random.Random(21)
        words = ["house", "one", "list", "link", "elm", "oak", "ann", "400", "9001", "1", "plain", "packed", "ann@elm", "bob@oak", "", "007", "X"]
        refused = {}
        for turn in range(3000):
            rows = plan_text(Walk(turn % 40).hall.plan).split("\n")
            for change in range(chance.choice((0, 1, 1, 2, 5))):
                at = chance.randrange(len(rows))
                kind = chance.randrange(6)
                if kind == 0:
                    rows.insert(at, rows[chance.randrange(len(rows))])
                elif kind == 1 and len(rows) > 1:
                    rows.pop(at)
                elif kind == 2:
                    other = chance.randrange(len(rows))
                    rows[at], rows[other] = rows[other], rows[at]
                else:
                    parts = rows[at].split(" ")
                    place = chance.randrange(len(parts))
                    parts[place:place + chance.randrange(2)] = chance.sample(words, chance.choice((0, 1, 1, 2)))
                    rows[at] = " ".join(parts)
            expected = plain_reading(rows)
            text = "\n".join(rows)
            if isinstance(expected, int):
                self.assertEqual(line_of(text), expected, text)
                refused[expected == len(rows)] = refused.get(expected == len(rows), 0) + 1
            else:
                self.assertEqual(kinds(plan_in(text)), kinds(expected))
        self.assertGreater(min(refused.values()), 200)


if __name__ == "__main__":
    unittest.main()
