"""Queries: tests, and what else may be asked of a piece in a box."""

from letterhall.basics import is_name, is_within
from letterhall.rules import MOST_JOINED, is_joined, is_leaf_test, joined_holds, leaf_test_holds

MOST_SINCE = 400


def is_leaf_query(thing):
    """Whether this tuple is a query without another one in it."""
    if len(thing) == 2 and (thing[0] == "marked" or thing[0] == "box"):
        return is_name(thing[1])
    if len(thing) == 2 and thing[0] == "since":
        return is_within(thing[1], 0, MOST_SINCE)
    return is_leaf_test(thing)


def is_query(thing):
    """Whether it is a query."""
    return is_joined(thing, is_leaf_query, MOST_JOINED)


def leaf_query_holds(query, facts, known, brought_at):
    """Whether a query without another one in it holds of a piece."""
    word = query[0]
    if word == "marked":
        return query[1] in known.marks_told()
    if word == "box":
        return query[1] == known.box
    if word == "since":
        return brought_at >= query[1]
    return leaf_test_holds(query, facts)


def query_holds(query, facts, known, brought_at):
    """Whether a query holds of a piece: by its letter's facts, what is known of it, and its tick."""
    return joined_holds(query, lambda leaf: leaf_query_holds(leaf, facts, known, brought_at))
