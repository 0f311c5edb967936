"""Point [22]: what a sheet is answered."""

import random
import unittest

from letterhall.orders import entry_of, order_in
from letterhall.replays import shows_log
from letterhall.sheet import run
from letterhall.texts import plan_text
from tests.halls import Walk
from tests.samples import kinds, words
from tests.sheets import ALL, ROWS, SheetChance, hall_answers

PLAN = """house elm 9000 plain marked packed
one ann
one bob
list all ann@elm cid@oak
house oak 9000 plain
one cid
one dan
house ash 9000 packed
one eve
link elm oak 2
link oak ash 1"""


def answers(*rows, plan=PLAN):
    """The answers to these rows."""
    return run("\n".join([plan, "begin", *rows]))


class Rows(unittest.TestCase):

    def check(self, *pairs):
        """Rows with their answers, one behind the other."""
        self.assertEqual(kinds(answers(*[row for row, answer in pairs])), kinds([answer for row, answer in pairs]))

    def test_no_rows(self):
        self.assertEqual(kinds(run(PLAN + "\nbegin")), kinds([]))

    def test_send_and_where(self):
        self.check(("send ann@elm bob@elm hi x", "0"), ("send ann@elm cid@oak,zed@elm,all@elm,ann@elm - -", "1"), ("where 0", "bob@elm brought"),
                   ("where 1", "cid@oak queue; zed@elm failed nobody; all@elm spread; ann@elm brought; cid@oak queue; ann@elm again"),
                   ("where 2", "ann@elm brought"), ("where 3", "refused NoLetter"), ("tick 1", "1"),
                   ("where 1", "cid@oak link; zed@elm failed nobody; all@elm spread; ann@elm brought; cid@oak link; ann@elm again"), ("tick 2", "3"),
                   ("where 1", "cid@oak brought; zed@elm failed nobody; all@elm spread; ann@elm brought; cid@oak again; ann@elm again"))

    def test_why_a_copy_failed(self):
        self.check(("send ann@elm x@nowhere - -", "0"), ("where 0", "x@nowhere failed noway"), ("send eve@ash dan@oak - " + "x" * 61, "2"),
                   ("where 2", "dan@oak failed code"), ("cut elm oak", "yes"), ("send ann@elm cid@oak - -", "4"), ("tick 50", "50"), ("where 4", "cid@oak failed late"))

    def test_signs(self):
        self.check(("send ann@elm bob@elm _a_ tea_for_2", "0"), ("find bob@elm tea", "0"), ("find bob@elm for", "0"), ("find bob@elm 2", "0"), ("find bob@elm a", "0"),
                   ("find bob@elm b", "-"), ("find ann@elm tea", "-"), ("send ann@elm bob@elm - -", "1"), ("send ann@elm bob@elm tea -", "2"), ("find bob@elm tea", "0; 2"),
                   ("send ann@elm bob@elm " + "a" * 40 + " " + "b" * 50, "3"), ("find bob@elm aaaaaaaaaaaa", "3"), ("find bob@elm bbbbbbbbbbbb", "3"))

    def test_answer(self):
        self.check(("answer 0 bob@elm ann@elm re x", "refused NoLetter"), ("send ann@elm bob@elm tea -", "0"), ("answer 0 bob@elm ann@elm,cid@oak re x", "1"),
                   ("answer 2 bob@elm ann@elm re x", "refused NoLetter"), ("where 1", "ann@elm brought; cid@oak queue"), ("answer 1 ann@elm bob@elm - -", "2"))

    def test_answered_letters_have_a_line(self):
        told, hall = hall_answers(PLAN + "\nbegin\nsend ann@elm bob@elm tea -\nanswer 0 bob@elm ann@elm re x")
        self.assertEqual(told, ["0", "1"])
        self.assertIn(("line", "0"), hall.letter(1)[0])

    def test_ticks_and_now(self):
        self.check(("now", "0"), ("tick 1", "1"), ("tick 50", "51"), ("now", "51"), ("now", "51"))

    def test_houses_and_links(self):
        self.check(("shut elm", "yes"), ("shut elm", "no"), ("send ann@elm bob@elm - -", "refused Shut"), ("wake oak", "no"), ("wake elm", "yes"), ("wake elm", "no"),
                   ("cut oak elm", "yes"), ("cut elm oak", "no"), ("tie ash oak", "no"), ("tie elm oak", "yes"), ("tie elm oak", "no"), ("shut yew", "refused NoHouse"),
                   ("wake begin", "refused NoHouse"), ("cut elm yew", "refused NoHouse"), ("cut elm ash", "refused NoLink"), ("tie elm elm", "refused NoLink"))

    def test_queue(self):
        self.check(("queue elm", "-"), ("send ann@elm cid@oak,eve@ash - -", "0"), ("queue elm", "0; 1"), ("send bob@elm dan@oak,ann@elm - -", "1"), ("queue elm", "0; 1; 2"),
                   ("tick 1", "1"), ("queue elm", "-"), ("queue oak", "-"), ("queue yew", "refused NoHouse"))

    def test_on(self):
        self.check(("on bob@elm ann@elm", "ok"), ("send cid@oak bob@elm - -", "0"), ("tick 3", "3"), ("where 0", "bob@elm brought; ann@elm brought"),
                   ("box bob@elm in", "-"), ("box ann@elm in", "0 0"), ("on zed@elm ann@elm", "refused NoOne"))

    def test_into(self):
        self.check(("into bob@elm old tea", "ok"), ("send ann@elm bob@elm tea -", "0"), ("send ann@elm bob@elm - a_tea", "1"), ("send ann@elm bob@elm - team", "2"),
                   ("box bob@elm old", "0 0; 1 1"), ("box bob@elm in", "2 2"), ("into zed@elm old tea", "refused NoOne"))

    def test_says(self):
        self.check(("says bob@elm back_at_5", "ok"), ("send ann@elm bob@elm tea -", "0"), ("box bob@elm in", "0 0"), ("box ann@elm in", "1 1"), ("find ann@elm back", "1"),
                   ("find ann@elm re", "1"), ("send ann@elm bob@elm tea -", "2"), ("box ann@elm in", "1 1"), ("says bob@elm " + "x" * 40, "ok"),
                   ("send ann@elm bob@elm tea -", "3"), ("box ann@elm in", "1 1; 4 4"), ("says zed@elm x", "refused NoOne"))
        told, hall = hall_answers(PLAN + "\nbegin\nsays bob@elm _\nsend ann@elm bob@elm tea -")
        self.assertEqual((told, hall.letter(1)[1]), (["ok", "0"], ("words", (32,))))

    def test_the_last_rule_alone(self):
        self.check(("into bob@elm old tea", "ok"), ("on bob@elm ann@elm", "ok"), ("send cid@oak cid@oak - -", "0"), ("send ann@elm bob@elm tea -", "1"),
                   ("box bob@elm old", "-"), ("box ann@elm in", "1 1"))

    def test_pieces(self):
        self.check(("send ann@elm bob@elm,ann@elm tea -", "0"), ("file bob@elm 0 old", "ok"), ("box bob@elm old", "0 0"), ("box bob@elm in", "-"), ("mark bob@elm 0 hot", "ok"),
                   ("file bob@elm 1 old", "refused NoPiece"), ("mark ann@elm 0 hot", "refused NoPiece"), ("drop bob@elm 2", "refused NoPiece"), ("drop bob@elm 0", "ok"),
                   ("drop bob@elm 0", "refused NoPiece"), ("find bob@elm tea", "-"), ("box zed@elm in", "refused NoOne"), ("find zed@elm tea", "refused NoOne"),
                   ("file zed@elm 0 old", "refused NoOne"), ("box ann@elm in", "1 0"))

    def test_marks_are_on(self):
        told, hall = hall_answers(PLAN + "\nbegin\nsend ann@elm bob@elm tea -\nmark bob@elm 0 hot")
        self.assertEqual(hall.pieces(("bob", "elm"), ("bob", "elm"), "in"), [(0, 0, 0, ("hot",))])

    def test_terms_holds_and_releases(self):
        self.check(("send ann@elm bob@elm tea -", "0"), ("send ann@elm bob@elm - -", "1"), ("term bob@elm in 2", "ok"), ("hold tea", "0"), ("hold tea", "1"), ("tick 1", "1"),
                   ("box bob@elm in", "0 0; 1 1"), ("tick 1", "2"), ("box bob@elm in", "-"), ("release 0", "ok"), ("release 0", "refused NoHold"), ("release 2", "refused NoHold"),
                   ("release 1", "ok"), ("term bob@elm in 400", "ok"), ("term zed@elm in 1", "refused NoOne"))

    def test_desks(self):
        self.check(("send ann@elm bob@elm tea -", "0"), ("desk bob@elm", "1"), ("desk cid@oak", "2"), ("mark bob@elm 0 hot", "ok"), ("file bob@elm 0 old", "ok"),
                   ("meet 1", "0 2"), ("meet 1", "0 0"), ("meet 3", "refused NoDesk"), ("meet 0", "refused NoDesk"), ("desk zed@oak", "refused NoOne"),
                   ("shut elm", "yes"), ("meet 1", "refused Shut"), ("desk bob@elm", "refused Shut"), ("box bob@elm old", "0 0"))

    def test_several_addresses(self):
        self.check(("send ann@elm a@b - -", "0"), ("send ann@elm bob@elm,ann@elm,a@b,all@elm - -", "2"), ("send ann@elm send@begin,begin@begin - -", "4"))


class Deeds(unittest.TestCase):

    def test_each_row_is_the_deed_that_it_says(self):
        """No answer tells a blank from a sign that parts words as it does, or a mark that isn't on: so the deeds are looked at."""
        ann, bob = ("ann", "elm"), ("bob", "elm")
        for row, entry in (
                ("send ann@elm bob@elm,ann@elm a_b _c", ("send", ann, (bob, ann), "a b", words(" c"), None)), ("send ann@elm bob@elm - -", ("send", ann, (bob,), "", words(""), None)),
                ("answer 7 ann@elm bob@elm _ 0", ("send", ann, (bob,), " ", words("0"), 7)), ("tick 50", ("tick", 50)), ("shut elm", ("shut", "elm")), ("wake elm", ("wake", "elm")),
                ("cut elm oak", ("cut", "elm", "oak")), ("tie elm oak", ("tie", "elm", "oak")), ("on ann@elm bob@elm", ("rule", ann, ((ALL, (("on", bob),)),))),
                ("into ann@elm old tea", ("rule", ann, ((("word", "tea"), (("file", "old"),)),))),
                ("says ann@elm at_5", ("rule", ann, ((ALL, (("answer", "at 5"), ("file", "in"))),))), ("file ann@elm 3 old", ("file", ann, 3, "old")),
                ("mark ann@elm 3 hot", ("mark", ann, 3, "hot", True)), ("drop ann@elm 3", ("drop", ann, 3)), ("term ann@elm in 400", ("term", ann, "in", 400)),
                ("hold tea", ("hold", ("word", "tea"), None)), ("release 0", ("release", 0)), ("desk ann@elm", ("desk", ann)), ("meet 1", ("meet", 1))):
            self.assertEqual(kinds(entry_of(order_in(row))), kinds(entry))


class Refused(unittest.TestCase):

    def test_in_the_order_told(self):
        long = "x" * 61
        for rows, last in (
                (["shut elm", "answer 9 zed@elm bob@elm - -"], "NoOne"), (["shut elm", "answer 9 ann@elm bob@elm - -"], "Shut"),
                (["shut elm", "answer 9 cid@oak bob@elm - " + long], "NoLetter"), (["send cid@oak bob@elm - " + long], "NoWay"),
                (["send ann@elm bob@elm - -", "answer 0 cid@oak bob@elm - " + long], "NoWay"), (["shut elm", "file zed@elm 9 in"], "NoOne"),
                (["shut elm", "file ann@elm 9 in"], "Shut"), (["file ann@elm 9 in"], "NoPiece"), (["shut elm", "mark ann@elm 9 hot"], "Shut"),
                (["shut elm", "drop ann@elm 9"], "Shut"), (["shut elm", "on ann@elm bob@elm"], "Shut"), (["shut elm", "into ann@elm in x"], "Shut"),
                (["shut elm", "says ann@elm x"], "Shut"), (["shut elm", "term ann@elm in 1"], "Shut"), (["shut elm", "desk ann@elm"], "Shut"),
                (["desk ann@elm", "shut elm", "meet 2"], "NoDesk"), (["desk ann@elm", "shut elm", "meet 1"], "Shut"), (["cut yew fir"], "NoHouse"), (["release 0"], "NoHold"),
                (["send all@elm bob@elm - -"], "NoOne"), (["send post@elm bob@elm - -"], "NoOne"), (["where 0"], "NoLetter"), (["where 999999"], "NoLetter")):
            self.assertEqual(answers(*rows)[-1], "refused " + last, rows)

    def test_asks_are_answered_of_a_shut_house(self):
        self.assertEqual(answers("send ann@elm bob@elm tea -", "shut elm", "box bob@elm in", "find bob@elm tea", "queue elm", "where 0", "now"),
                         ["0", "yes", "0 0", "0", "-", "bob@elm brought", "0"])

    def test_nothing_is_changed_where_it_was_refused(self):
        rows = ["send ann@elm bob@elm,cid@oak tea -", "tick 1", "desk bob@elm", "hold tea", "drop bob@elm 0", "where 0", "box bob@elm in", "queue elm", "now"]
        wrong = ["send zed@elm bob@elm - -", "answer 7 ann@elm bob@elm - -", "send cid@oak bob@elm - " + "x" * 61, "shut yew", "cut elm ash", "on zed@elm ann@elm",
                 "file ann@elm 0 old", "mark cid@oak 5 hot", "drop bob@elm 9", "term zed@oak in 1", "release 9", "desk zed@elm", "meet 9", "where 50", "queue yew"]
        told = []
        for answer in answers(*[one for row in rows for one in [*wrong, row]]):
            if not answer.startswith("refused "):
                told.append(answer)
        self.assertEqual(told, answers(*rows))


class Whole(unittest.TestCase):

    def test_the_same_sheet_told_twice(self):
        text = "\n".join([PLAN, "begin", "send ann@elm bob@elm,cid@oak tea x", "tick 3", "where 0", "box bob@elm in"])
        first, second = run(text), run(text)
        self.assertEqual(first, second)
        self.assertIsNot(first, second)
        first.clear()
        self.assertEqual(run(text), second)
        self.assertEqual(run(text=text), second)

    def test_names_like_the_words_of_rows(self):
        plan = "house begin 400 plain\none send\none now\nhouse now 400 plain\none tick\nlink begin now 1"
        self.assertEqual(answers("send send@begin now@begin now begin", "box now@begin in", "find now@begin begin", "queue begin", "shut now", "where 0", plan=plan),
                         ["0", "0 0", "0", "-", "yes", "now@begin brought"])

    def test_sheets_with_chance(self):
        seen = {}
        for seed in range(60):
            chance = random.Random(seed)
            walk = Walk(seed)
            sheet = SheetChance(chance, walk)
            text = "\n".join([plan_text(walk.hall.plan), "begin"] + [sheet.row() for k in range(100)])
            told = run(text)
            expected, hall = hall_answers(text)
            self.assertEqual(kinds(told), kinds(expected))
            self.assertIs(shows_log(hall.plan, hall.log()), True)
            for row, answer in zip(text.split("\nbegin\n")[1].split("\n"), told, strict=True):
                key = answer if answer.startswith("refused ") else "answered"
                seen.setdefault(row.split(" ")[0], {}).setdefault(key, answer)
                seen.setdefault(key, {})
        self.assertEqual(set(ROWS) - set(seen), set())
        self.assertTrue(all("answered" in seen[word] for word in ROWS))
        for name in ("NoOne", "NoHouse", "NoLink", "Shut", "NoLetter", "NoWay", "NoPiece", "NoHold", "NoDesk"):
            self.assertIn("refused " + name, seen)

    def test_at_the_bounds(self):
        rows = (["send ann@elm all@elm,bob@elm,eve@ash,dan@oak " + "x" * 40 + " " + "tea_" * 8] + ["tick 4", "where 0"]) * 96
        text = "\n".join([PLAN, "begin"] + rows)
        self.assertEqual(text.count("\n") + 1, 300)
        self.assertEqual(len(run(text)), 288)


if __name__ == "__main__":
    unittest.main()
