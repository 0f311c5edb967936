"""Holds: pieces that may not go, and what becomes of those that are there no more."""

from letterhall.checks import hold_at, need_person
from letterhall.rules import test_holds


def begin_hold(world, test, people):
    """A hold of all pieces of these people, None of all, of whose letter the test holds."""
    if people is not None:
        for address in people:
            need_person(world, address)
    world.all_holds.append((test, people))
    return len(world.all_holds) - 1


def holds_piece(world, hold, piece):
    """Whether a hold holds a piece that isn't gone."""
    test, people = hold
    if people is not None and piece.owner not in people:
        return False
    return test_holds(test, world.all_letters[piece.letter_number].facts)


def is_held(world, piece):
    """Whether any hold holds a piece that isn't gone."""
    for hold in world.all_holds:
        if hold is not None and holds_piece(world, hold, piece):
            return True
    return False


def keep_or_lose(world, piece):
    """A piece isn't there any more, or a hold of it is over: it's kept by a hold, or gone."""
    piece.fate = "kept" if is_held(world, piece) else "gone"


def end_hold(world, number):
    """A hold is over, and kept pieces go that no other one holds."""
    hold_at(world, number)
    world.all_holds[number] = None
    for piece in world.all_pieces:
        if piece.fate == "kept":
            keep_or_lose(world, piece)


def pieces_held(world, number):
    """The rising list of the pieces that a hold holds."""
    hold = hold_at(world, number)
    left = [piece for piece in world.all_pieces if piece.fate != "gone"]
    return [piece.number for piece in left if holds_piece(world, hold, piece)]
