"""Writings put into rows of text by three codes, and read back from them."""

from letterhall.basics import cut_up, is_plain_sign, plain_sign
from letterhall.errors import NoCode

WAYS = ("plain", "marked", "packed")
MOST_ROW = 60

MOST_WRITING = 300
MOST_SIGN = 65535
LINE_END = 10
EQUALS = 61

MARK_FIGURES = "0123456789abcdef"
MARK_SIZE = 4

PACK_FIGURES = "ABCDEFGHIJKLMNOPQRSTUVWXYZabcdefghijklmnopqrstuvwxyz0123456789+-"
PACK_BITS = 6
SIGN_BITS = 16


def lines_of(writing):
    """The lines of a writing, each a list of its signs."""
    lines = [[]]
    for sign in writing:
        if sign == LINE_END:
            lines.append([])
        else:
            lines[-1].append(sign)
    return lines


def plain_fault(writing):
    """The place of the first sign that can't stand in plain rows; None where all can."""
    length = 0
    for place, sign in enumerate(writing):
        if sign == LINE_END:
            length = 0
        elif length == MOST_ROW or not is_plain_sign(sign):
            return place
        else:
            length += 1
    return None


def plain_rows(writing):
    """The plain rows of a writing."""
    fault = plain_fault(writing)
    if fault is not None:
        raise NoCode(fault)
    return ["".join([plain_sign(sign) for sign in line]) for line in lines_of(writing)]


def marked_piece(sign):
    """What stands for one sign in marked rows."""
    if is_plain_sign(sign) and sign != EQUALS:
        return plain_sign(sign)
    return f"={sign:04x}"


def marked_line(line):
    """The marked rows of one line."""
    pieces = [marked_piece(sign) for sign in line]
    left = sum([len(piece) for piece in pieces])
    rows = []
    row = ""
    for piece in pieces:
        # What this row and all behind it hold together may be one row, without a = at its end.
        fits_whole = len(row) + left <= MOST_ROW
        if not fits_whole and len(row) + len(piece) >= MOST_ROW:
            rows.append(row + "=")
            row = ""
        row += piece
        left -= len(piece)
    return rows + [row]


def marked_rows(writing):
    """The marked rows of a writing."""
    return [row for line in lines_of(writing) for row in marked_line(line)]


def packed_rows(writing):
    """The packed rows of a writing."""
    # The bound keeps a sign that is beyond it from shifting those behind it.
    bits = "".join([f"{sign & MOST_SIGN:016b}" for sign in writing])
    figures = [PACK_FIGURES[int(six.ljust(PACK_BITS, "0"), 2)] for six in cut_up(bits, PACK_BITS)]
    return cut_up("".join(figures), MOST_ROW) or [""]


def signs_of(text):
    """The numbers of the signs of a text, as a list."""
    return [ord(sign) for sign in text]


def from_plain(rows):
    """The only writing that could have these plain rows."""
    return tuple(signs_of("\n".join(rows)))


def from_marked(rows):
    """The only writing that could have these marked rows; None where a mark isn't whole."""
    first, *rest = "\n".join(rows).replace("=\n", "").split("=")
    signs = signs_of(first)
    for piece in rest:
        figures = piece[:MARK_SIZE]
        if len(figures) < MARK_SIZE or not all([figure in MARK_FIGURES for figure in figures]):
            return None
        signs.append(int(figures, 16))
        signs.extend(signs_of(piece[MARK_SIZE:]))
    return tuple(signs)


def from_packed(rows):
    """The only writing that could have these packed rows; None where one has another figure."""
    numbers = [PACK_FIGURES.find(figure) for figure in "".join(rows)]
    if -1 in numbers:
        return None
    bits = "".join([f"{number:06b}" for number in numbers])
    whole = len(bits) // SIGN_BITS * SIGN_BITS
    return tuple([int(sixteen, 2) for sixteen in cut_up(bits[:whole], SIGN_BITS)])


CODERS = {"plain": plain_rows, "marked": marked_rows, "packed": packed_rows}
READERS = {"plain": from_plain, "marked": from_marked, "packed": from_packed}


def coded(writing, way):
    """The list of the rows of a writing, coded this way."""
    coder = CODERS[way]
    return coder(writing)


def can_code(writing, way):
    """Whether a writing can be coded this way."""
    return way != "plain" or plain_fault(writing) is None


def written(rows, way):
    """The writing of which these are just the rows; None where there is none."""
    reader = READERS[way]
    writing = reader(rows)
    if writing is None or len(writing) > MOST_WRITING or not can_code(writing, way):
        return None
    # Other rows could be read alike: only those that coded tells are the writing's.
    return writing if coded(writing, way) == list(rows) else None


def coded_size(writing, way):
    """How many signs the rows have, each with one more for its end."""
    return sum([len(row) + 1 for row in coded(writing, way)])


def best_way(writing, *, ways=WAYS):
    """The one of these ways with the fewest signs, the first in WAYS of like ones; None of none."""
    able = [way for way in WAYS if way in ways and can_code(writing, way)]
    return min(able, key=lambda way: coded_size(writing, way), default=None)
