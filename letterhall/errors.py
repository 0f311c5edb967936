"""The refusals of all of Letterhall, each with the fields that say what was refused."""


class NoCode(ValueError):
    """A writing can't be coded that way, because of the sign at this place."""

    def __init__(self, place):
        ValueError.__init__(self, f"the sign at place {place} can't be coded")
        self.place = place


class BadLetter(ValueError):
    """A text is no letter's, by the row with this number."""

    def __init__(self, row):
        ValueError.__init__(self, f"no letter's text goes on like this at row {row}")
        self.row = row


class BadPlan(ValueError):
    """What was handed in for a plan is none."""

    def __init__(self, plan):
        ValueError.__init__(self, "this is no plan")
        self.plan = plan


class BadLine(ValueError):
    """A text of rows is not well written, by the row with this number."""

    def __init__(self, line):
        ValueError.__init__(self, f"row {line} can't stand so")
        self.line = line


class NoOne(LookupError):
    """Nobody who could do this has this address."""

    def __init__(self, address):
        LookupError.__init__(self, f"no such person has the address {address}")
        self.address = address


class NoHouse(LookupError):
    """The plan has no house of this name."""

    def __init__(self, house):
        LookupError.__init__(self, f"there is no house {house}")
        self.house = house


class NoLink(LookupError):
    """The plan has no link between these two houses."""

    def __init__(self, one, other):
        LookupError.__init__(self, f"there is no link between {one} and {other}")
        self.one = one
        self.other = other


class NoLetter(IndexError):
    """No letter has this number."""

    def __init__(self, number):
        IndexError.__init__(self, f"there is no letter {number}")
        self.number = number


class NoCopy(IndexError):
    """No copy has this number."""

    def __init__(self, copy):
        IndexError.__init__(self, f"there is no copy {copy}")
        self.copy = copy


class NoPiece(IndexError):
    """No piece of this number is there."""

    def __init__(self, piece):
        IndexError.__init__(self, f"there is no piece {piece}")
        self.piece = piece


class NoHold(IndexError):
    """No hold of this number is on."""

    def __init__(self, number):
        IndexError.__init__(self, f"there is no hold {number}")
        self.number = number


class NoDesk(IndexError):
    """No desk has this number."""

    def __init__(self, number):
        IndexError.__init__(self, f"there is no desk {number}")
        self.number = number


class NoDeed(IndexError):
    """Fewer deeds than these were done."""

    def __init__(self, many):
        IndexError.__init__(self, f"there were not {many} deeds")
        self.many = many


class NoWay(RuntimeError):
    """Some writing can't be coded by any of the ways."""

    def __init__(self):
        RuntimeError.__init__(self, "some writing can't be coded by any of the ways")


class Shut(RuntimeError):
    """This house is shut."""

    def __init__(self, house):
        RuntimeError.__init__(self, f"the house {house} is shut")
        self.house = house


class NoRight(RuntimeError):
    """The right of this word is wanting."""

    def __init__(self, word):
        RuntimeError.__init__(self, f"the right to {word} is wanting")
        self.word = word
