"""What a log may have in it: which deeds, and each argument within its bounds."""

from letterhall.basics import all_unlike, is_name, is_number, is_plain_text, is_tuple, is_within
from letterhall.boxes import RIGHTS
from letterhall.letters import is_body
from letterhall.plans import is_address
from letterhall.post import MOST_ABOUT
from letterhall.rules import is_rules, is_test

MOST_DEEDS_DONE = 300
MOST_TICKS = 400
MOST_MANY = 50
MOST_TO = 4

# The sorts of all that a deed is handed, in the interface's order.
FORMS = {
    "send": ("address", "to", "about", "body", "answers"), "rule": ("address", "rules"), "tick": ("many",),
    "shut": ("name",), "wake": ("name",), "cut": ("name", "name"), "tie": ("name", "name"),
    "file": ("address", "number", "name"), "mark": ("address", "number", "name", "switch"),
    "drop": ("address", "number"), "share": ("address", "name", "address", "rights"),
    "term": ("address", "name", "ticks"), "hold": ("test", "people"), "release": ("number",), "desk": ("address",),
    "away": ("number", "away"), "meet": ("number",),
}
AWAY_FORMS = {"file": ("number", "name"), "mark": ("number", "name", "switch"), "drop": ("number",)}


def is_to(thing):
    """Whether a letter may go to these addresses."""
    if not is_tuple(thing, 1, MOST_TO) or not all([is_address(address) for address in thing]):
        return False
    return all_unlike(thing)


def is_about(thing):
    """Whether a letter may be about this."""
    return is_plain_text(thing, 0, MOST_ABOUT)


def is_answers(thing):
    """Whether it may be the number of the letter that is answered, or of none."""
    return thing is None or is_number(thing)


def is_many(thing):
    """Whether so many ticks may go by in one deed."""
    return is_within(thing, 1, MOST_MANY)


def is_ticks(thing):
    """Whether it is a term, or none."""
    return thing is None or is_within(thing, 1, MOST_TICKS)


def is_switch(thing):
    """Whether it is True or False."""
    return isinstance(thing, bool)


def is_rights(thing):
    """Whether these are rights on a box, unlike ones."""
    if not is_tuple(thing, 0, len(RIGHTS)) or not all([right in RIGHTS for right in thing]):
        return False
    return all_unlike(thing)


def is_people_held(thing):
    """Whether these are the people of a hold, alike or not, or all."""
    if thing is None:
        return True
    return isinstance(thing, tuple) and all([is_address(address) for address in thing])


def is_worded(thing):
    """Whether it is a tuple with a text ahead of all."""
    return isinstance(thing, tuple) and len(thing) > 0 and isinstance(thing[0], str)


def is_away_deed(thing):
    """Whether it is a deed that may be done at a desk."""
    return is_worded(thing) and thing[0] in AWAY_FORMS and fits(AWAY_FORMS[thing[0]], thing[1:])


CHECKS = {
    "to": is_to, "about": is_about, "answers": is_answers, "many": is_many, "ticks": is_ticks, "switch": is_switch,
    "rights": is_rights, "people": is_people_held, "away": is_away_deed,
}


def is_of_sort(sort, thing):
    """Whether it is a thing of this sort."""
    if sort == "address":
        return is_address(thing)
    if sort == "name":
        return is_name(thing)
    if sort == "number":
        return is_number(thing)
    if sort == "body":
        return is_body(thing)
    if sort == "rules":
        return is_rules(thing)
    if sort == "test":
        return is_test(thing)
    # The others are sorts of deeds alone, and so told in this file.
    check = CHECKS[sort]
    return check(thing)


def fits(sorts, things):
    """Whether these are as many things as sorts, each of its own one."""
    if len(things) != len(sorts):
        return False
    return all([is_of_sort(sort, thing) for sort, thing in zip(sorts, things)])


def is_entry(thing):
    """Whether it is an entry of a log, refused or not."""
    return is_worded(thing) and thing[0] in FORMS and fits(FORMS[thing[0]], thing[1:])


def is_log(thing):
    """Whether it is a log, refused or not."""
    if not isinstance(thing, list) or len(thing) > MOST_DEEDS_DONE or not all([is_entry(entry) for entry in thing]):
        return False
    return sum([entry[1] for entry in thing if entry[0] == "tick"]) <= MOST_TICKS
