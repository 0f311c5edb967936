"""Rows of a sheet behind its begin: how each is written, and which deed it is."""

from letterhall.lines import words_read
from letterhall.rules import FIRST_BOX

# The sorts of the words behind the first one.
ORDERS = {
    "send": ("address", "to", "about", "body"), "answer": ("number", "address", "to", "about", "body"),
    "tick": ("many",), "shut": ("name",), "wake": ("name",), "cut": ("name", "name"), "tie": ("name", "name"),
    "on": ("address", "address"), "into": ("address", "name", "search"), "says": ("address", "saying"),
    "file": ("address", "number", "name"), "mark": ("address", "number", "name"), "drop": ("address", "number"),
    "term": ("address", "name", "ticks"), "hold": ("search",), "release": ("number",), "desk": ("address",),
    "meet": ("number",), "where": ("number",), "box": ("address", "name"), "find": ("address", "search"),
    "queue": ("name",), "now": (),
}

# Holds of each letter.
ALL_LETTERS = ("any", ("auto",), ("not", ("auto",)))


def order_in(row):
    """The tuple of a row's word and what its other words say; None where it isn't so written."""
    word, *words = row.split(" ")
    if word not in ORDERS:
        return None
    read = words_read(ORDERS[word], words)
    return None if read is None else (word, *read)


def send_entry(sender, to, about, body):
    """The deed of a row `send`."""
    return "send", sender, to, about, body, None


def answer_entry(number, sender, to, about, body):
    """The deed of a row `answer`."""
    return "send", sender, to, about, body, number


def on_entry(who, address):
    """The deed of a row `on`."""
    return "rule", who, ((ALL_LETTERS, (("on", address),)),)


def into_entry(who, box, word):
    """The deed of a row `into`."""
    return "rule", who, ((("word", word), (("file", box),)),)


def says_entry(who, text):
    """The deed of a row `says`."""
    return "rule", who, ((ALL_LETTERS, (("answer", text), ("file", FIRST_BOX))),)


def mark_entry(who, piece, name):
    """The deed of a row `mark`."""
    return "mark", who, piece, name, True


def hold_entry(word):
    """The deed of a row `hold`."""
    return "hold", ("word", word), None


# Of those rows that aren't just as their deed is logged.
ENTRIES = {
    "send": send_entry, "answer": answer_entry, "on": on_entry, "into": into_entry, "says": says_entry,
    "mark": mark_entry, "hold": hold_entry,
}


def entry_of(order):
    """The deed of an order, as a log has it."""
    word, *given = order
    if word not in ENTRIES:
        return order
    maker = ENTRIES[word]
    return maker(*given)
