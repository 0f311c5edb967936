"""Letters: what one is, its rows of text, and the letter read back from them."""

from letterhall.basics import cut_up, is_figures, is_name, is_plain_text, is_tuple, is_within
from letterhall.codes import MOST_ROW, MOST_SIGN, MOST_WRITING, WAYS, best_way, coded, written
from letterhall.errors import BadLetter, NoWay

MOST_HEADS = 60
MOST_VALUE = 300
MOST_PARTS = 4
MOST_DEEP = 3

# One less than MOST_ROW: a row with more of a value begins with a blank, which counts.
MOST_MORE = 59

MOST_MARK_FIGURES = 4


def is_head(thing):
    """Whether it is a pair (NAME, value)."""
    return is_tuple(thing, 2, 2) and is_name(thing[0]) and is_plain_text(thing[1], 0, MOST_VALUE)


def is_heads(thing):
    """Whether these are heads."""
    return is_tuple(thing, 0, MOST_HEADS) and all([is_head(head) for head in thing])


def is_writing(thing):
    """Whether it is a writing."""
    return is_tuple(thing, 0, MOST_WRITING) and all([is_within(sign, 0, MOST_SIGN) for sign in thing])


def is_part(thing, deep):
    """Whether it is a pair (heads, body), the body at most so deep."""
    return is_tuple(thing, 2, 2) and is_heads(thing[0]) and is_body_within(thing[1], deep)


def is_parts(thing, deep):
    """Whether these are parts, their bodies at most so deep."""
    return is_tuple(thing, 1, MOST_PARTS) and all([is_part(part, deep) for part in thing])


def is_body_within(thing, deep):
    """Whether it is a body at most so deep."""
    if deep == 0 or not is_tuple(thing, 2, 2):
        return False
    if thing[0] == "words":
        return is_writing(thing[1])
    return thing[0] == "parts" and is_parts(thing[1], deep - 1)


def is_body(thing):
    """Whether it is a body."""
    return is_body_within(thing, MOST_DEEP)


def is_letter(thing):
    """Whether it is a letter."""
    return is_part(thing, MOST_DEEP)


def head_rows(head):
    """The rows of one head."""
    name, value = head
    first = value[:MOST_ROW]
    more = [f" {piece}" for piece in cut_up(value[MOST_ROW:], MOST_MORE)]
    return [f"{name}: {first}"] + more


def words_rows(writing, ways):
    """The rows of a body of words."""
    way = best_way(writing, ways=ways)
    if way is None:
        raise NoWay()
    return [f"words {way}"] + coded(writing, way)


def part_row(mark):
    """The row ahead of each part, by the mark."""
    return f"-{mark}"


def end_row(mark):
    """The row behind the last part, by the mark."""
    return f"-{mark} end"


def least_mark(rows):
    """The least mark of which neither row stands among these."""
    taken = set(rows)
    mark = 0
    while part_row(mark) in taken or end_row(mark) in taken:
        mark += 1
    return mark


def parts_rows(parts, ways):
    """The rows of a body of parts."""
    each = [letter_rows(part, ways=ways) for part in parts]
    mark = least_mark([row for rows in each for row in rows])
    told = [f"parts {mark}"]
    for rows in each:
        told.append(part_row(mark))
        told.extend(rows)
    return told + [end_row(mark)]


def body_rows(body, ways):
    """The rows of a body."""
    word, inner = body
    return words_rows(inner, ways) if word == "words" else parts_rows(inner, ways)


def letter_rows(letter, *, ways=WAYS):
    """The list of a letter's rows; a part has its rows made likewise."""
    heads, body = letter
    return [row for head in heads for row in head_rows(head)] + [""] + body_rows(body, ways)


def letter_text(letter, *, ways=WAYS):
    """A letter's rows, parted by line feeds."""
    return "\n".join(letter_rows(letter, ways=ways))


def is_mark(text):
    """Whether a mark may be written so."""
    return is_figures(text, MOST_MARK_FIGURES)


def is_more(row, room):
    """Whether the row can bring more of a value that has room for so many signs."""
    return row[:1] == " " and is_plain_text(row[1:], 1, min(room, MOST_MORE))


class Reader:
    """Reads a letter's rows one behind the other; at is the number of the next row."""

    def __init__(self, rows):
        self.rows = rows
        self.at = 0

    def take(self):
        """The next row; where none is left, something is wanting."""
        if self.at == len(self.rows):
            raise BadLetter(self.at)
        self.at += 1
        return self.rows[self.at - 1]

    def read_whole(self):
        """The letter of all rows."""
        letter = self.read_part(())
        if self.at < len(self.rows):
            raise BadLetter(self.at)
        return letter

    def read_part(self, around):
        """A pair of heads and body; around are the marks of the parts that it's in."""
        heads = self.read_heads()
        return heads, self.read_body(around)

    def read_heads(self):
        """All heads, and the bare row behind them."""
        heads = []
        row = self.take()
        while row != "":
            name, colon, first = row.partition(": ")
            if len(heads) == MOST_HEADS or colon == "" or not is_name(name):
                raise BadLetter(self.at - 1)
            if not is_plain_text(first, 0, MOST_ROW):
                raise BadLetter(self.at - 1)
            heads.append((name, self.read_value(first)))
            row = self.take()
        return tuple(heads)

    def read_value(self, first):
        """The value that begins with first, with all rows that bring more of it."""
        value = first
        full = len(first) == MOST_ROW
        # A row with a blank ahead that is left here is no head, and so refused as one.
        while full and self.at < len(self.rows) and is_more(self.rows[self.at], MOST_VALUE - len(value)):
            more = self.take()[1:]
            value += more
            full = len(more) == MOST_MORE
        return value

    def read_body(self, around):
        """A body, which is as deep as there are marks around it, and one more."""
        word, blank, rest = self.take().partition(" ")
        if word == "words" and rest in WAYS:
            return "words", self.read_words(rest, around)
        if word == "parts" and len(around) + 1 < MOST_DEEP and is_mark(rest) and rest not in around:
            return "parts", self.read_parts(rest, around)
        raise BadLetter(self.at - 1)

    def read_words(self, way, around):
        """The writing that is coded this way from the next row on."""
        first = self.at
        stops = [row for mark in around for row in (part_row(mark), end_row(mark))]
        while self.at < len(self.rows) and self.rows[self.at] not in stops:
            self.at += 1
        if self.at == first:
            raise BadLetter(first)
        writing = written(self.rows[first:self.at], way)
        if writing is None:
            raise BadLetter(first - 1)
        return writing

    def read_parts(self, mark, around):
        """All parts with this mark, and the row behind them."""
        parts = []
        row = self.take()
        while row == part_row(mark) and len(parts) < MOST_PARTS:
            parts.append(self.read_part(around + (mark,)))
            row = self.take()
        if row != end_row(mark) or not parts:
            raise BadLetter(self.at - 1)
        return tuple(parts)


def read_letter(text):
    """The letter of such a text as letter_text tells, with any ways and marks that can stand."""
    return Reader(text.split("\n")).read_whole()
