"""A sheet: a plan and rows of deeds and asks in one text, and an answer to each of these rows."""

from letterhall.basics import address_text
from letterhall.deeds import do_entry
from letterhall.errors import BadLine, NoDesk, NoHold, NoHouse, NoLetter, NoLink, NoOne, NoPiece, NoWay, Shut
from letterhall.hall import Hall
from letterhall.orders import entry_of, order_in
from letterhall.plans import is_plan
from letterhall.texts import read_rows

BEGIN = "begin"


def several(texts):
    """Several answers as one."""
    return "; ".join(texts) or "-"


def copy_answer(row):
    """`ADDRESS STATE` of a copy, of one that failed why, too."""
    copy, address, state = row
    words = state if state[0] == "failed" else state[:1]
    return " ".join([address_text(address), *words])


def tell_where(hall, number):
    """The states of a letter's copies."""
    return several([copy_answer(row) for row in hall.copies(number)])


def tell_box(hall, who, box):
    """The pieces in a box of who's own, with their letters."""
    return several([f"{row[0]} {row[1]}" for row in hall.pieces(who, who, box)])


def tell_find(hall, who, word):
    """The pieces in which who finds a word."""
    return several([str(piece) for piece in hall.find(who, ("word", word))])


def tell_queue(hall, house):
    """The copies that wait in a house."""
    return several([str(copy) for copy in hall.queue(house)])


def tell_now(hall):
    """The tick."""
    return str(hall.now())


ASKS = {"where": tell_where, "box": tell_box, "find": tell_find, "queue": tell_queue, "now": tell_now}


def deed_answer(told):
    """What a deed told, as an answer."""
    if told is None:
        return "ok"
    if isinstance(told, bool):
        return "yes" if told else "no"
    if isinstance(told, tuple):
        return " ".join([str(number) for number in told])
    return str(told)


def done_answer(hall, order):
    """The answer to an order that may be refused."""
    word, *given = order
    if word not in ASKS:
        return deed_answer(do_entry(hall, entry_of(order)))
    ask = ASKS[word]
    return ask(hall, *given)


def answer_to(hall, order):
    """The answer to an order, done or refused."""
    try:
        return done_answer(hall, order)
    except NoOne:
        return "refused NoOne"
    except NoHouse:
        return "refused NoHouse"
    except NoLink:
        return "refused NoLink"
    except Shut:
        return "refused Shut"
    except NoLetter:
        return "refused NoLetter"
    except NoWay:
        return "refused NoWay"
    except NoPiece:
        return "refused NoPiece"
    except NoHold:
        return "refused NoHold"
    except NoDesk:
        return "refused NoDesk"


def read_orders(rows, first):
    """The orders of all rows from this one on; refused at the first that isn't so written."""
    orders = []
    for line in range(first, len(rows)):
        order = order_in(rows[line])
        if order is None:
            raise BadLine(line)
        orders.append(order)
    return orders


def run(text):
    """The list of the answers to all rows behind begin."""
    rows = text.split("\n")
    begin = rows.index(BEGIN) if BEGIN in rows else len(rows)
    plan = read_rows(rows[:begin])
    orders = read_orders(rows, begin + 1)
    if begin == len(rows) or not is_plan(plan):
        raise BadLine(len(rows))
    hall = Hall(plan)
    return [answer_to(hall, order) for order in orders]
