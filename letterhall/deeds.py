"""Deeds as entries of a log: the word, and all that the deed is handed, in the interface's order."""


def do_send(hall, sender, to, about, body, answers):
    """A person sends a letter."""
    return hall.send(sender, to, about, body, answers=answers)


def do_rule(hall, who, rules):
    """A person has these rules."""
    return hall.rule(who, rules)


def do_tick(hall, many):
    """So many ticks go by."""
    return hall.tick(many=many)


def do_shut(hall, house):
    """A house is shut."""
    return hall.shut(house)


def do_wake(hall, house):
    """A house is awake."""
    return hall.wake(house)


def do_cut(hall, one, other):
    """A link is cut."""
    return hall.cut(one, other)


def do_tie(hall, one, other):
    """A link is tied."""
    return hall.tie(one, other)


def do_file(hall, who, piece, box):
    """A piece is filed."""
    return hall.file(who, piece, box)


def do_mark(hall, who, piece, name, on):
    """A piece is marked, or not."""
    return hall.mark(who, piece, name, on=on)


def do_drop(hall, who, piece):
    """A piece is dropped."""
    return hall.drop(who, piece)


def do_share(hall, who, box, other, rights):
    """A box is shared."""
    return hall.share(who, box, other, rights)


def do_term(hall, who, box, ticks):
    """A box has a term."""
    return hall.term(who, box, ticks)


def do_hold(hall, test, people):
    """A hold begins."""
    return hall.hold(test, people=people)


def do_release(hall, number):
    """A hold is over."""
    return hall.release(number)


def do_desk(hall, who):
    """A desk begins."""
    return hall.desk(who)


def do_away(hall, number, deed):
    """A deed is done at a desk."""
    return hall.away(number, deed)


def do_meet(hall, number):
    """Desk and house meet."""
    return hall.meet(number)


DEEDS = {
    "send": do_send, "rule": do_rule, "tick": do_tick, "shut": do_shut, "wake": do_wake, "cut": do_cut, "tie": do_tie,
    "file": do_file, "mark": do_mark, "drop": do_drop, "share": do_share, "term": do_term, "hold": do_hold,
    "release": do_release, "desk": do_desk, "away": do_away, "meet": do_meet,
}


def do_entry(hall, entry):
    """Does with a hall what an entry of a log says; told is what the deed tells."""
    word, *given = entry
    deed = DEEDS[word]
    return deed(hall, *given)
