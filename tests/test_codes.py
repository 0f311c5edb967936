"""Point [3]: coded, written, best_way."""

import random
import unittest

from letterhall.codes import MOST_ROW, WAYS, best_way, coded, written
from letterhall.errors import NoCode
from tests.samples import signs, some_writing

FIGURES = "ABCDEFGHIJKLMNOPQRSTUVWXYZabcdefghijklmnopqrstuvwxyz0123456789+-"


def marked_as_told(writing):
    """The marked rows, word for word as the document tells them."""
    lines = [[]]
    for sign in writing:
        if sign == 10:
            lines.append([])
        else:
            itself = 32 <= sign <= 126 and sign not in (37, 61)
            lines[-1].append(chr(sign) if itself else "=" + hex(sign)[2:].rjust(4, "0"))
    rows = []
    for pieces in lines:
        while len("".join(pieces)) > 60:
            many = max(k for k in range(len(pieces)) if len("".join(pieces[:k])) <= 59)
            rows.append("".join(pieces[:many]) + "=")
            pieces = pieces[many:]
        rows.append("".join(pieces))
    return rows


def packed_as_told(writing):
    """The packed rows, by one great number."""
    number = 0
    for sign in writing:
        number = number * 65536 + sign
    many = -(-len(writing) * 16 // 6)
    number <<= many * 6 - len(writing) * 16
    text = ""
    for k in range(many):
        text = FIGURES[number % 64] + text
        number //= 64
    return [text[at:at + 60] for at in range(0, max(len(text), 1), 60)]


def writings():
    chance = random.Random(3)
    return [some_writing(chance) for k in range(300)]


class Constants(unittest.TestCase):

    def test_as_told(self):
        self.assertEqual(WAYS, ("plain", "marked", "packed"))
        self.assertIsInstance(WAYS, tuple)
        self.assertEqual(MOST_ROW, 60)


class Plain(unittest.TestCase):

    def refused(self, writing, place):
        with self.assertRaises(NoCode) as caught:
            coded(writing, "plain")
        self.assertEqual(caught.exception.place, place)
        self.assertIsInstance(caught.exception, ValueError)

    def test_lines_as_rows(self):
        self.assertEqual(coded(signs("ab\nc"), "plain"), ["ab", "c"])
        self.assertEqual(coded((), "plain"), [""])
        self.assertEqual(coded((10,), "plain"), ["", ""])
        self.assertEqual(coded(signs("\na\n\n"), "plain"), ["", "a", "", ""])
        self.assertEqual(coded((10,) * 300, "plain"), [""] * 301)
        self.assertIsInstance(coded((), "plain"), list)

    def test_each_plain_sign_is_itself(self):
        for sign in range(0, 300):
            if 32 <= sign <= 126 and sign != 37:
                self.assertEqual(coded((sign,), "plain"), [chr(sign)])
            elif sign != 10:
                self.refused((sign,), 0)

    def test_signs_that_cannot_stand(self):
        for sign in (0, 9, 11, 31, 37, 127, 128, 65535):
            self.refused(signs("ab\nc") + (sign,) + signs("\n") + (0,), 4)

    def test_sixty_and_sixty_one(self):
        self.assertEqual(coded((97,) * 60, "plain"), ["a" * 60])
        self.assertEqual(coded((97,) * 60 + (10,) + (98,) * 60, "plain"), ["a" * 60, "b" * 60])
        self.refused((97,) * 61, 60)
        self.refused((10,) * 3 + (97,) * 61, 63)
        self.refused((97,) * 60 + (10,) + (97,) * 100, 121)

    def test_the_first_of_several(self):
        self.refused((97,) * 59 + (37,) + (97,) * 9, 59)
        self.refused((97,) * 60 + (37,) + (97,) * 9, 60)
        self.refused((97,) * 61 + (37,), 60)


class Marked(unittest.TestCase):

    def test_pieces(self):
        self.assertEqual(coded(signs("a=b"), "marked"), ["a=003db"])
        self.assertEqual(coded((37, 0, 31, 127, 65535, 44252, 9), "marked"), ["=0025=0000=001f=007f=ffff=acdc=0009"])
        self.assertEqual(coded((126, 32, 36, 38), "marked"), ["~ $&"])

    def test_lines(self):
        self.assertEqual(coded((), "marked"), [""])
        self.assertEqual(coded((10, 10), "marked"), ["", "", ""])
        self.assertEqual(coded(signs("a\nb\n"), "marked"), ["a", "b", ""])

    def test_fifty_nine_sixty_sixty_one(self):
        for many in (59, 60):
            self.assertEqual(coded((97,) * many, "marked"), ["a" * many])
        self.assertEqual(coded((97,) * 61, "marked"), ["a" * 59 + "=", "aa"])

    def test_rest_goes_on_as_a_line(self):
        self.assertEqual(coded((97,) * 119, "marked"), ["a" * 59 + "=", "a" * 60])
        self.assertEqual(coded((97,) * 120, "marked"), ["a" * 59 + "=", "a" * 59 + "=", "aa"])
        self.assertEqual(coded((97,) * 61 + (10,) + (98,) * 60, "marked"), ["a" * 59 + "=", "aa", "b" * 60])

    def test_a_piece_is_never_parted(self):
        self.assertEqual(coded((0,) * 12, "marked"), ["=0000" * 12])
        self.assertEqual(coded((0,) * 13, "marked"), ["=0000" * 11 + "=", "=0000" * 2])
        self.assertEqual(coded((97,) * 54 + (0, 97, 97), "marked"), ["a" * 54 + "=0000=", "aa"])
        self.assertEqual(coded((97,) * 55 + (0, 97), "marked"), ["a" * 55 + "=", "=0000a"])
        self.assertEqual(coded((97,) * 55 + (0,), "marked"), ["a" * 55 + "=0000"])
        self.assertEqual(coded((97,) * 56 + (0,), "marked"), ["a" * 56 + "=", "=0000"])

    def test_as_told_over_many(self):
        for writing in writings():
            self.assertEqual(coded(writing, "marked"), marked_as_told(writing))


class Packed(unittest.TestCase):

    def test_figures(self):
        self.assertEqual(coded((), "packed"), [""])
        self.assertEqual(coded((0,), "packed"), ["AAA"])
        self.assertEqual(coded((65535,), "packed"), ["--8"])
        self.assertEqual(coded((10,), "packed"), ["AAo"])
        self.assertEqual(coded((1,), "packed"), ["AAE"])
        self.assertEqual(coded((32768,), "packed"), ["gAA"])
        self.assertEqual(coded((1, 2, 3), "packed"), ["AAEAAgAD"])

    def test_each_figure(self):
        for number, figure in enumerate(FIGURES):
            self.assertEqual(coded((number << 10,), "packed"), [figure + "AA"])

    def test_sixty_in_a_row(self):
        self.assertEqual(coded((0,) * 22, "packed"), ["A" * 59])
        self.assertEqual(coded((0,) * 23, "packed"), ["A" * 60, "AA"])
        self.assertEqual(coded((0,) * 45, "packed"), ["A" * 60, "A" * 60])
        self.assertEqual([len(row) for row in coded((10,) * 300, "packed")], [60] * 13 + [20])

    def test_as_told_over_many(self):
        for writing in writings():
            self.assertEqual(coded(writing, "packed"), packed_as_told(writing))


class Written(unittest.TestCase):

    def none(self, rows, way):
        self.assertIsNone(written(rows, way), (rows, way))

    def test_the_writing_of_its_rows(self):
        tried = {way: 0 for way in WAYS}
        for writing in writings():
            for way in WAYS:
                if way == "plain" and best_way(writing, ways=("plain",)) is None:
                    continue
                told = written(coded(writing, way), way)
                self.assertEqual(told, writing)
                self.assertIsInstance(told, tuple)
                tried[way] += 1
        self.assertGreater(min(tried.values()), 30)

    def test_no_rows(self):
        for way in WAYS:
            self.none([], way)
            self.assertEqual(written([""], way), ())

    def test_three_hundred_and_one(self):
        for way in WAYS:
            for sign in (10, 97):
                writing = tuple(10 if k % 50 == 49 else sign for k in range(301))
                self.assertEqual(written(coded(writing[:300], way), way), writing[:300])
                self.none(coded(writing, way), way)
                self.none(coded(writing * 4, way), way)
        self.assertEqual(written(coded((65535,) * 300, "marked"), "marked"), (65535,) * 300)
        self.none(coded((65535,) * 301, "marked"), "marked")

    def test_plain_rows_that_are_none(self):
        self.none(["a" * 61], "plain")
        self.none(["ok", "a" * 61], "plain")
        for text in ("a%", "a\nb", "\n", "\t", chr(127), chr(233), chr(0x1F600), "a\r"):
            self.none([text], "plain")

    def test_plain_rows_that_look_marked(self):
        self.assertEqual(written(["=", "=0025", "a="], "plain"), signs("=\n=0025\na="))

    def test_marked_rows_that_are_none(self):
        for text in ("=", "a=", "=0", "=00", "=002", "=0025=", "=zzzz", "=00g5", "=+025", "= 025", "=0_25"):
            self.none([text], "marked")
        for text in ("=0061", "=0020", "=000a", "=003D", "=00FF", "=FFFF", "=25", "=3d", "=03d", "==003d"):
            self.none([text], "marked")
        for text in ("a%", "a\nb", "\t", chr(127), chr(233), chr(0xFF13), "=" + chr(0x663) * 4):
            self.none([text], "marked")

    def test_marked_rows_broken_elsewhere(self):
        self.none(["a=", "b"], "marked")
        self.none(["a" * 58 + "=", "a" * 3], "marked")
        self.none(["a" * 60 + "=", "a"], "marked")
        self.none(["a" * 61], "marked")
        self.none(["a" * 59 + "=", "a"], "marked")
        self.none(["a" * 59 + "=", ""], "marked")
        self.none(["a" * 59 + "="], "marked")
        self.none(["a" * 59 + "=", "a" * 61], "marked")
        self.none(["a" * 59 + "=", "a" * 59 + "=", "a"], "marked")
        self.none(["a" * 55 + "=00=", "00a"], "marked")
        self.none(["a" * 54 + "=", "=0000aa"], "marked")
        self.assertEqual(written(["a" * 55 + "=", "=0000a"], "marked"), (97,) * 55 + (0, 97))

    def test_packed_rows_that_are_none(self):
        for text in ("A", "AA", "AAAA", "AAAAA", "AAAAAAA", "AAB", "AAC", "AAD", "AAF", "AAJ", "--9", "---"):
            self.none([text], "packed")
        for text in ("AA=", "AA/", "AA ", "AA\n", "%AA", " AAA", "AA" + chr(233)):
            self.none([text], "packed")
        for rows in (["AAA", ""], ["", "AAA"], ["AA", "A"], ["", ""], ["A" * 62], ["A" * 61, "A"], ["A" * 60],
                     ["A" * 59, "AAA"], ["A" * 60, "A" * 60, ""]):
            self.none(rows, "packed")
        self.assertEqual(written(["AAAAAA"], "packed"), (0, 0))
        self.assertEqual(written(["AAAAAAAA"], "packed"), (0, 0, 0))

    def test_rows_of_another_way(self):
        self.none(coded((0, 1), "packed")[:0], "plain")
        self.none(["=0025"], "packed")
        self.assertEqual(written(["AAA"], "plain"), signs("AAA"))
        self.assertEqual(written(["AAA"], "packed"), (0,))

    def test_rows_are_few_changes_away(self):
        """Whatever is told as written is coded just so."""
        chance = random.Random(5)
        for writing in writings():
            for way in ("marked", "packed"):
                rows = coded(writing, way)
                at = chance.randrange(len(rows))
                place = chance.randrange(len(rows[at]) + 1)
                new = chance.choice(("", "=", "A", "0", "b", "=0061"))
                rows[at] = rows[at][:place] + new + rows[at][place + 1:]
                told = written(rows, way)
                if told is not None:
                    self.assertEqual(coded(told, way), rows)


class Best(unittest.TestCase):

    def test_by_the_fewest_signs(self):
        self.assertEqual(best_way(signs("hello")), "plain")
        self.assertEqual(best_way((97,) * 61), "marked")
        self.assertEqual(best_way((0, 1, 2)), "packed")
        self.assertEqual(best_way((37,) + (97,) * 9), "marked")
        self.assertEqual(best_way((10,) * 8, ways=("marked", "packed")), "marked")

    def test_of_like_ones_the_first(self):
        self.assertEqual(best_way(()), "plain")
        self.assertEqual(best_way(signs("ab"), ways=("packed", "marked", "plain")), "plain")
        self.assertEqual(best_way((), ways=("packed", "marked")), "marked")
        # Marked =0000 and a bare row, packed six figures: 7 each, with the rows' ends.
        self.assertEqual(best_way((0, 10), ways=("packed", "marked")), "marked")

    def test_the_end_of_a_row_counts(self):
        # Marked ten signs in three rows, packed eleven in one.
        self.assertEqual(best_way((0, 0, 10, 10)), "packed")
        self.assertEqual(best_way((0, 97, 10)), "marked")

    def test_as_told_over_many(self):
        choices = [(), ("plain",), ("marked",), ("packed",), ("packed", "plain"), ("marked", "plain"),
                   ("packed", "marked"), ("packed", "marked", "plain"), WAYS]
        for writing in writings():
            sizes = {}
            for way in WAYS:
                try:
                    sizes[way] = len("\n".join(coded(writing, way)))
                except NoCode:
                    pass
            for ways in choices:
                able = [(sizes[way], WAYS.index(way), way) for way in ways if way in sizes]
                self.assertEqual(best_way(writing, ways=ways), min(able)[2] if able else None)
            self.assertEqual(best_way(writing), best_way(writing, ways=WAYS))

    def test_none(self):
        self.assertIsNone(best_way(signs("a"), ways=()))
        self.assertIsNone(best_way((), ways=()))
        self.assertIsNone(best_way((37,), ways=("plain",)))
        self.assertIsNone(best_way((97,) * 61, ways=("plain",)))
        self.assertEqual(best_way((37,), ways=("plain", "packed")), "packed")


if __name__ == "__main__":
    unittest.main()
