"""Papers: what became of letters, of a copy on its way, and of a desk's pieces, to be shown and looked at again."""

from letterhall.basics import is_same
from letterhall.checks import copy_at, desk_at
from letterhall.post import copy_heads


def begun_by(rows):
    """The copy of which each one was made that was passed on, of these rows of copies."""
    told = {}
    for copy, address, state in rows:
        if state[0] == "spread" or state[0] == "brought":
            for made in state[-1]:
                told[made] = copy
    return told


def fate_paper(hall, number):
    """The rising list of (copy, begun, address, state) of a letter's copies."""
    rows = hall.copies(number)
    begun = begun_by(rows)
    return [(copy, begun.get(copy), address, state) for copy, address, state in rows]


def shows_fate(hall, number, thing):
    """Whether it's just the fate paper of a letter."""
    return is_same(fate_paper(hall, number), thing)


def hall_paper(hall):
    """The list of the fate papers of all letters."""
    return [fate_paper(hall, number) for number in range(hall.letters())]


def shows_hall(hall, thing):
    """Whether it's just the paper of a hall."""
    return is_same(hall_paper(hall), thing)


def way_paper(hall, copy):
    """The list of (house, tick, text) of a copy's hops, the text as it came to that house."""
    found = copy_at(hall.world, copy)
    letter = hall.world.all_letters[found.letter_number]
    told = []
    for at, (house, tick) in enumerate(found.hop_rows):
        heads = copy_heads(found.hop_rows[:at + 1], found.passed_by)
        told.append((house, tick, letter.text_behind(heads, hall.world.chart.ways_of[house])))
    return told


def shows_way(hall, copy, thing):
    """Whether it's just the way paper of a copy."""
    return is_same(way_paper(hall, copy), thing)


def piece_known(shelf, piece):
    """The pair (box, marks) of what is known of a piece, None where it isn't there."""
    if not shelf.has_there(piece):
        return None
    return shelf.known[piece].box, shelf.known[piece].marks_told()


def desk_paper(hall, number):
    """The rising list of (piece, house's, desk's) of all pieces that are there by what either knows."""
    desk = desk_at(hall.world, number)
    house_shelf = hall.world.shelf_of[desk.owner]
    pieces = sorted(set(house_shelf.there() + desk.shelf.there()))
    return [(piece, piece_known(house_shelf, piece), piece_known(desk.shelf, piece)) for piece in pieces]


def shows_desk(hall, number, thing):
    """Whether it's just the paper of a desk."""
    return is_same(desk_paper(hall, number), thing)
