"""A thing with one thing in it otherwise: what a paper or a log must not be taken for."""


def others(thing):
    """Other things in the place of one that has no parts."""
    if isinstance(thing, bool) or thing is None:
        return [int(thing)] if isinstance(thing, bool) else [0, False, "", ()]
    if isinstance(thing, int):
        return [thing + 1, str(thing), None] + ([bool(thing)] if thing in (0, 1) else [])
    return [thing + "x", thing[1:] if thing else "y", None, (thing,)]


def variants(thing):
    """All things that are this one but for one part: another one, left out, twice, exchanged, of another kind."""
    if not isinstance(thing, (list, tuple)):
        yield from others(thing)
        return
    make = type(thing)
    inner = list(thing)
    yield tuple(inner) if make is list else inner
    yield make(inner + inner[-1:] if inner else [None])
    for at, one in enumerate(inner):
        yield make(inner[:at] + inner[at + 1:])
        if at and inner[at - 1] != one:
            yield make(inner[:at - 1] + [one, inner[at - 1]] + inner[at + 1:])
        for other in variants(one):
            yield make(inner[:at] + [other] + inner[at + 1:])
