"""Threads: the pieces of a box, each below that one whose letter its own answers."""

from letterhall.boxes import need_sight


def piece_above(line, last_piece):
    """The piece of the last letter in a line that has one in the box; None of none."""
    for number in reversed(line):
        if number in last_piece:
            return last_piece[number]
    return None


def pieces_below(world, numbers):
    """The list of the pieces right below each piece, and below None, of these in a box, rising."""
    last_piece = {}
    for number in numbers:
        last_piece[world.all_pieces[number].letter_number] = number
    below = {None: []}
    for number in numbers:
        below[number] = []
    for number in numbers:
        line = world.all_letters[world.all_pieces[number].letter_number].line
        below[piece_above(line, last_piece)].append(number)
    return below


def threads_seen(world, who, owner, box):
    """The list of (number, deep) of all pieces in a box, each ahead of all below it."""
    need_sight(world, who, owner, box)
    below = pieces_below(world, world.shelf_of[owner].there_in(box))
    told = []
    # Not by a function within itself: a thread may be as deep as there are letters.
    left = [(number, 0) for number in reversed(below[None])]
    while left:
        number, deep = left.pop()
        told.append((number, deep))
        left.extend([(one, deep + 1) for one in reversed(below[number])])
    return told
