"""Point [8]: judged."""

import unittest

from letterhall.rules import judged
from tests.samples import kinds, listed, part

LETTER = part("tea at five", ("from", "ann@elm"), ("about", "hall"))
YES, NO = ("word", "tea"), ("word", "coffee")
DROP, STOP = ("drop",), ("stop",)
ANN, BOB = ("ann", "elm"), ("bob", "oak")


class Judged(unittest.TestCase):

    def judge(self, rules, boxes=("in",), marks=(), ons=(), answers=()):
        told = (boxes, marks, ons, answers)
        self.assertEqual(kinds(judged(rules, LETTER)), kinds(told), rules)
        self.assertEqual(kinds(judged(listed(rules), listed(LETTER))), kinds(told), rules)
        self.assertEqual(kinds(judged(letter=LETTER, rules=rules)), kinds(told), rules)

    def test_no_rules_and_none_that_holds(self):
        self.judge(())
        self.judge(((NO, (("file", "old"), ("mark", "hot"), ("on", ANN), ("answer", "x"), DROP)),))

    def test_each_deed(self):
        self.judge(((YES, (("file", "old"),)),), boxes=("old",))
        self.judge(((YES, (("mark", "hot"),)),), marks=("hot",))
        self.judge(((YES, (("on", ANN),)),), boxes=(), ons=(ANN,))
        self.judge(((YES, (("answer", "x"),)),), answers=((0, "x"),))
        self.judge(((YES, (DROP,)),), boxes=())
        self.judge(((YES, (STOP,)),))

    def test_filed_and_sent_on(self):
        self.judge(((YES, (("file", "old"), ("on", ANN))),), boxes=("old",), ons=(ANN,))
        self.judge(((YES, (("on", ANN), ("file", "in"))),), boxes=("in",), ons=(ANN,))
        self.judge(((YES, (("on", ANN),)), (YES, (("file", "old"),))), boxes=("old",), ons=(ANN,))

    def test_in_order_each_once(self):
        rules = ((YES, (("file", "new"), ("mark", "b"), ("on", BOB), ("file", "old"))), (NO, (("file", "no"),)),
                 (YES, (("file", "old"), ("mark", "a"), ("mark", "b"), ("on", ANN))), (YES, (("on", BOB), ("file", "new"), ("file", "in"))))
        self.judge(rules, boxes=("new", "old", "in"), marks=("b", "a"), ons=(BOB, ANN))

    def test_answers(self):
        self.judge(((YES, (("answer", "x"), ("answer", "y"), ("answer", "x"))),), answers=((0, "x"), (0, "y")))
        self.judge(((NO, (STOP,)), (YES, (("answer", "x"),)), (YES, (("answer", "x"), ("answer", "y")))),
                   answers=((1, "x"), (2, "x"), (2, "y")))

    def test_drop_leaves_the_rest(self):
        deeds = (("file", "old"), ("mark", "hot"), ("on", ANN), ("answer", "x"))
        for rules in (((YES, deeds), (YES, (DROP,))), ((YES, (DROP,)), (YES, deeds))):
            number = [deeds in rule for rule in rules].index(True)
            self.judge(rules, boxes=(), marks=("hot",), ons=(ANN,), answers=((number, "x"),))

    def test_stop_and_drop_in_one_rule(self):
        self.judge(((YES, (STOP, DROP)),))
        self.judge(((YES, (DROP, STOP)),), boxes=())
        self.judge(((YES, (("file", "old"), STOP, DROP)),), boxes=("old",))
        self.judge(((YES, (("file", "old"), DROP, STOP)),), boxes=())
        self.judge(((YES, (DROP, ("file", "old"), STOP)),), boxes=())

    def test_stop_and_drop_over_two(self):
        self.judge(((YES, (STOP,)), (YES, (DROP,))))
        self.judge(((YES, (DROP,)), (YES, (STOP,))), boxes=())
        self.judge(((YES, (("file", "old"), STOP)), (YES, (DROP,))), boxes=("old",))
        self.judge(((NO, (STOP,)), (YES, (DROP,))), boxes=())
        self.judge(((NO, (DROP,)), (YES, (STOP,)), (YES, (("file", "old"), DROP))))

    def test_stop_ends_all(self):
        self.judge(((YES, (("mark", "a"), STOP, ("mark", "b"))), (YES, (("on", ANN), ("answer", "x"), ("file", "old")))), marks=("a",))

    def test_told_tuples_of_what_was_handed_in_as_lists(self):
        rules = [[list(YES), [["on", ["ann", "elm"]], ["file", "old"]]]]
        told = judged(rules, LETTER)
        rules[0][1][0][1][0] = "eve"
        self.assertEqual(kinds(told), kinds((("old",), (), (ANN,), ())))


if __name__ == "__main__":
    unittest.main()
