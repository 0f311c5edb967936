"""Boxes: deeds on pieces in them, the rights of others, terms, and what may be asked of them."""

from letterhall.checks import need_doer, need_person
from letterhall.errors import NoOne, NoPiece, NoRight
from letterhall.holds import keep_or_lose
from letterhall.post import copy_text
from letterhall.queries import query_holds
from letterhall.rules import FIRST_BOX

RIGHTS = ("see", "file", "mark", "drop")

# The number of a house among the places where deeds are done; desks are numbered from 1 on.
HOUSE_PLACE = 0


def may(world, who, owner, box, right):
    """Whether who has this right on the owner's box."""
    return who == owner or right in world.all_shares.get((owner, box, who), ())


def need_right(world, who, owner, box, right):
    """Refused where who hasn't this right on the owner's box."""
    if not may(world, who, owner, box, right):
        raise NoRight(right)


def known_of(world, piece):
    """What the house knows of a piece."""
    return world.shelf_of[piece.owner].known[piece.number]


def piece_seen(world, who, number):
    """The piece with this number, where it's there and who may see it."""
    if not 0 <= number < len(world.all_pieces):
        raise NoPiece(number)
    piece = world.all_pieces[number]
    if piece.fate != "there" or not may(world, who, piece.owner, known_of(world, piece).box, "see"):
        raise NoPiece(number)
    return piece


def piece_for(world, who, number, right):
    """The piece with this number, where who may see it and has this right on the box it's in."""
    need_doer(world, who)
    piece = piece_seen(world, who, number)
    need_right(world, who, piece.owner, known_of(world, piece).box, right)
    return piece


def do_in_house(world, piece, deed):
    """The house learns of a deed that is done there."""
    world.shelf_of[piece.owner].do_here(HOUSE_PLACE, deed)


def file_piece(world, who, number, box):
    """A piece is in this box of its owner from now on."""
    piece = piece_for(world, who, number, "file")
    need_right(world, who, piece.owner, box, "file")
    do_in_house(world, piece, ("file", number, box))


def mark_piece(world, who, number, name, on):
    """A piece has this mark, or hasn't, from now on."""
    piece = piece_for(world, who, number, "mark")
    do_in_house(world, piece, ("mark", number, name, on))


def drop_piece(world, who, number):
    """A piece is dropped."""
    piece = piece_for(world, who, number, "drop")
    do_in_house(world, piece, ("drop", number))
    keep_or_lose(world, piece)


def share_box(world, who, box, other, rights):
    """Another person of the house has just these rights on who's box from now on."""
    need_doer(world, who)
    if other not in world.chart.people or other[1] != who[1] or other == who:
        raise NoOne(other)
    world.all_shares[who, box, other] = tuple([right for right in RIGHTS if right in rights])


def set_term(world, who, box, ticks):
    """The term of who's box from now on, None of none."""
    need_doer(world, who)
    if ticks is not None:
        world.all_terms[who, box] = ticks
    elif (who, box) in world.all_terms:
        del world.all_terms[who, box]


def rights_told(world, owner, box):
    """The list of (other, rights), others rising, bare rights left out."""
    need_person(world, owner)
    others = sorted([key[2] for key in world.all_shares if key[:2] == (owner, box)])
    rows = [(other, world.all_shares[owner, box, other]) for other in others]
    return [row for row in rows if row[1]]


def boxes_seen(world, who):
    """The rising list of (owner, box) of who's own boxes, and those that others share with who."""
    need_person(world, who)
    own = [(who, box) for box in world.shelf_of[who].boxes_there()]
    shared = [key[:2] for key in world.all_shares if key[2] == who and "see" in world.all_shares[key]]
    return sorted(set([(who, FIRST_BOX)] + own + shared))


def need_sight(world, who, owner, box):
    """Refused where who or owner is nobody, or who may not see the owner's box."""
    need_person(world, who)
    need_person(world, owner)
    need_right(world, who, owner, box, "see")


def piece_row(world, known, number):
    """What pieces tells of one piece, by what is known of it."""
    piece = world.all_pieces[number]
    return number, piece.letter_number, piece.brought_at, known.marks_told()


def shelf_rows(world, shelf, box):
    """The list of what is told of all pieces in a box, by one shelf."""
    return [piece_row(world, shelf.known[number], number) for number in shelf.there_in(box)]


def pieces_seen(world, who, owner, box):
    """The list of what is told of all pieces in an owner's box."""
    need_sight(world, who, owner, box)
    return shelf_rows(world, world.shelf_of[owner], box)


def text_read(world, who, number):
    """The text of a piece, as it came."""
    need_person(world, who)
    piece = piece_seen(world, who, number)
    return copy_text(world, world.all_copies[piece.copy_number], world.chart.ways_of[piece.owner[1]])


def pieces_found(world, who, query):
    """The rising list of all pieces that who may see and of which the query holds."""
    told = []
    for owner, box in boxes_seen(world, who):
        shelf = world.shelf_of[owner]
        for number in shelf.there_in(box):
            piece = world.all_pieces[number]
            facts = world.all_letters[piece.letter_number].facts
            if query_holds(query, facts, shelf.known[number], piece.brought_at):
                told.append(number)
    return sorted(told)
