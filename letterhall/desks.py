"""Desks: what is done away from the house, and how both come to know the same."""

from letterhall.checks import desk_at, need_awake, need_doer
from letterhall.errors import NoPiece
from letterhall.holds import keep_or_lose
from letterhall.world import Desk


def begin_desk(world, who):
    """A new desk of a person, that knows all that the house knows; told is its number."""
    need_doer(world, who)
    desk = Desk(len(world.all_desks) + 1, who, world.shelf_of[who].twin())
    world.all_desks.append(desk)
    return desk.number


def do_away(world, number, deed):
    """A deed is done at a desk."""
    desk = desk_at(world, number)
    if not desk.shelf.has_there(deed[1]):
        raise NoPiece(deed[1])
    desk.shelf.do_here(desk.number, deed)
    desk.waits.append(deed)


def take_in(world, desk):
    """The house learns of the deeds done at a desk."""
    shelf = world.shelf_of[desk.owner]
    for stamp in desk.shelf.not_known_to(shelf):
        deed = desk.shelf.deeds[stamp]
        shelf.learn(stamp, deed)
        piece = world.all_pieces[deed[1]]
        if deed[0] == "drop" and piece.fate == "there":
            keep_or_lose(world, piece)


def meet_house(world, number):
    """Desk and house come to know the same; told is how many deeds each brought to the other."""
    desk = desk_at(world, number)
    need_awake(world, desk.owner[1])
    done = len(desk.waits)
    news = len(world.shelf_of[desk.owner].not_known_to(desk.shelf))
    take_in(world, desk)
    desk.shelf = world.shelf_of[desk.owner].twin()
    desk.waits = []
    return done, news
