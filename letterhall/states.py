"""What is told of a copy: in which one state it is."""


def piece_rows(world, copy):
    """The tuple of (piece, box, word) of all pieces that a copy brought, the box by the house's last deed."""
    pieces = [world.all_pieces[number] for number in copy.made_pieces]
    known = world.shelf_of[copy.address].known
    return tuple([(piece.number, known[piece.number].box, piece.fate) for piece in pieces])


def state_told(world, copy):
    """The state of a copy."""
    word = copy.state[0]
    if word == "spread":
        return "spread", tuple(copy.made_copies)
    if word == "brought":
        return "brought", piece_rows(world, copy), tuple(copy.made_copies)
    return copy.state


def copy_rows(world, letter):
    """The rising list of (copy, address, state) of all copies of a letter."""
    copies = [world.all_copies[number] for number in world.copies_of[letter.number]]
    return [(copy.number, copy.address, state_told(world, copy)) for copy in copies]
