"""What a house or a desk knows of one person's pieces, by the deeds that are known there."""

# Ahead of each stamp that a deed can have.
FIRST_STAMP = (0, 0)


class Known:
    """What is known of one piece at one place."""

    def __init__(self, box, marks):
        self.is_there = True
        self.box = box
        self.box_stamp = FIRST_STAMP
        self.marks = {name: (FIRST_STAMP, True) for name in marks}

    def learn(self, stamp, deed):
        """One more deed is known: of those of one sort the one with the greatest stamp counts."""
        word = deed[0]
        if word == "drop":
            self.is_there = False
        elif word == "file":
            if stamp > self.box_stamp:
                self.box = deed[2]
                self.box_stamp = stamp
        elif stamp > self.mark_stamp(deed[2]):
            self.marks[deed[2]] = (stamp, deed[3])

    def mark_stamp(self, name):
        """The greatest stamp of a deed with this mark."""
        return self.marks[name][0] if name in self.marks else FIRST_STAMP

    def marks_told(self):
        """The rising tuple of the marks that it has."""
        return tuple(sorted([name for name in self.marks if self.marks[name][1]]))

    def twin(self):
        """The same once more."""
        other = Known(self.box, ())
        other.is_there = self.is_there
        other.box_stamp = self.box_stamp
        other.marks = dict(self.marks)
        return other


class Shelf:
    """What one place knows of all pieces of one person."""

    def __init__(self):
        self.known = {}
        self.deeds = {}
        self.top = 0

    def bring(self, piece, box, marks):
        """A piece comes, as it was brought."""
        self.known[piece] = Known(box, marks)

    def learn(self, stamp, deed):
        """A deed that wasn't known here is known from now on."""
        self.deeds[stamp] = deed
        self.top = max(self.top, stamp[0])
        self.known[deed[1]].learn(stamp, deed)

    def do_here(self, place, deed):
        """A deed is done here, at the place with this number."""
        self.learn((self.top + 1, place), deed)

    def end(self, piece):
        """A piece is over, without any deed."""
        known = self.known[piece]
        known.is_there = False

    def has_there(self, piece):
        """Whether the piece is there, by what is known here."""
        return piece in self.known and self.known[piece].is_there

    def there(self):
        """The rising list of the numbers of all pieces that are there."""
        return sorted([piece for piece in self.known if self.known[piece].is_there])

    def there_in(self, box):
        """The rising list of the numbers of the pieces that are there, in this box."""
        return [piece for piece in self.there() if self.known[piece].box == box]

    def boxes_there(self):
        """The rising list of the NAMEs of boxes with pieces that are there."""
        return sorted(set([self.known[piece].box for piece in self.there()]))

    def not_known_to(self, other):
        """The list of the stamps of all deeds that are known here, but not at the other one."""
        return [stamp for stamp in self.deeds if stamp not in other.deeds]

    def twin(self):
        """The same once more."""
        other = Shelf()
        other.known = {piece: self.known[piece].twin() for piece in self.known}
        other.deeds = {stamp: self.deeds[stamp] for stamp in self.deeds}
        other.top = self.top
        return other
