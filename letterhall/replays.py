"""Replays: a hall done once more by its log, as a whole or to some deed."""

from letterhall.basics import tupled
from letterhall.deeds import do_entry
from letterhall.errors import (NoDeed, NoDesk, NoHold, NoHouse, NoLetter, NoLink, NoOne, NoPiece, NoRight, NoWay,
                               Shut)
from letterhall.forms import is_log
from letterhall.hall import Hall
from letterhall.plans import is_plan


def replay(plan, log):
    """A hall of the plan with which all of a log was done; refused as the first deed that is."""
    hall = Hall(plan)
    for entry in log:
        do_entry(hall, entry)
    return hall


def as_of(hall, many):
    """A hall as it was behind its first so many deeds."""
    done = hall.log()
    if many > len(done):
        raise NoDeed(many)
    # Below 0 there were no deeds; a slice would count these from the end.
    return replay(hall.plan, done[:max(many, 0)])


def shows_log(plan, thing):
    """Whether it's the log of a hall of the plan, as told."""
    # Not asked of the plan: there, lists may stand for tuples.
    ready = tupled(plan)
    if not is_plan(ready) or not is_log(thing):
        return False
    try:
        replay(ready, thing)
    except (NoOne, NoHouse, NoLink, Shut, NoLetter, NoWay, NoPiece, NoRight, NoHold, NoDesk):
        return False
    return True
