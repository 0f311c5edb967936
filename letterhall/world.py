"""All that a hall keeps: letters, their copies, pieces, desks, and how things stand at this tick."""

from letterhall.facts import Facts
from letterhall.letters import body_rows, head_rows
from letterhall.shelves import Shelf


def heads_text(heads):
    """The rows of heads, each with the line feed behind it."""
    return "".join([f"{row}\n" for head in heads for row in head_rows(head)])


class Letter:
    """A letter that was sent. It stays as it is, so twins share it; texts are made when asked for."""

    def __init__(self, number, sender, heads, body, line):
        self.number = number
        self.sender = sender
        self.heads = heads
        self.body = body
        self.line = line
        self.facts = Facts((heads, body))
        self.is_auto = "auto" in self.facts.firsts
        self.own_text = heads_text(heads)
        self.body_texts = {}

    def body_text(self, ways):
        """The text of the body by these ways; refused NoWay."""
        if ways not in self.body_texts:
            self.body_texts[ways] = "\n".join(body_rows(self.body, ways))
        return self.body_texts[ways]

    def text_behind(self, heads, ways):
        """The text of the letter, with these heads ahead of its own, by these ways; refused NoWay."""
        # The line feed between is that of the bare row.
        return heads_text(heads) + self.own_text + "\n" + self.body_text(ways)


class Copy:
    """A letter on its way to one address."""

    def __init__(self, number, letter_number, address, passed_by, hop_rows):
        self.number = number
        self.letter_number = letter_number
        self.address = address
        self.passed_by = passed_by
        self.hop_rows = hop_rows
        self.trail_rows = []
        # As it is told, but of spread and brought the word alone: the rest is in what they made.
        self.state = ()
        self.tries = 0
        self.made_pieces = []
        self.made_copies = []

    def twin(self):
        """The same once more."""
        other = Copy(self.number, self.letter_number, self.address, self.passed_by, self.hop_rows)
        other.trail_rows = list(self.trail_rows)
        other.state = self.state
        other.tries = self.tries
        other.made_pieces = list(self.made_pieces)
        other.made_copies = list(self.made_copies)
        return other


class Piece:
    """A letter in somebody's box; fate is there, kept or gone."""

    def __init__(self, number, owner, letter_number, copy_number, brought_at):
        self.number = number
        self.owner = owner
        self.letter_number = letter_number
        self.copy_number = copy_number
        self.brought_at = brought_at
        self.fate = "there"

    def twin(self):
        """The same once more."""
        other = Piece(self.number, self.owner, self.letter_number, self.copy_number, self.brought_at)
        other.fate = self.fate
        return other


class Desk:
    """A desk of a person, what it knows, and the deeds done there since it last met."""

    def __init__(self, number, owner, shelf):
        self.number = number
        self.owner = owner
        self.shelf = shelf
        self.waits = []

    def twin(self):
        """The same once more."""
        other = Desk(self.number, self.owner, self.shelf.twin())
        other.waits = list(self.waits)
        return other


class World:
    """All houses at one tick."""

    def __init__(self, chart):
        self.chart = chart
        self.moment = 0
        self.shut_houses = {}
        self.cut_links = {}
        # Of queues and of links the numbers of copies, as keys in their order.
        self.queues = {house: {} for house in chart.house_list}
        self.under_way = {}
        self.all_letters = []
        self.all_copies = []
        self.copies_of = []
        # By the letter's number and a list's or a person's address.
        self.come_ahead = {}
        self.answered = {}
        self.all_rules = {}
        self.all_pieces = []
        self.shelf_of = {owner: Shelf() for owner in chart.people}
        # The rights on a box, by (owner, box, other).
        self.all_shares = {}
        self.all_terms = {}
        # A pair (test, people) each, None of those that are over.
        self.all_holds = []
        self.all_desks = []

    def is_open(self, house):
        """Whether a house is awake."""
        return house not in self.shut_houses

    def is_linked(self, one, other):
        """Whether a link is tied."""
        return (one, other) not in self.cut_links

    def twin(self):
        """The same once more, that goes on by itself."""
        other = World(self.chart)
        other.moment = self.moment
        other.shut_houses = dict(self.shut_houses)
        other.cut_links = {pair: True for pair in self.cut_links}
        other.queues = {house: dict(self.queues[house]) for house in self.queues}
        other.under_way = dict(self.under_way)
        other.all_letters = list(self.all_letters)
        other.all_copies = [copy.twin() for copy in self.all_copies]
        other.copies_of = [list(numbers) for numbers in self.copies_of]
        other.come_ahead = {key: True for key in self.come_ahead}
        other.answered = {key: True for key in self.answered}
        other.all_rules = {who: self.all_rules[who] for who in self.all_rules}
        other.all_pieces = [piece.twin() for piece in self.all_pieces]
        other.shelf_of = {owner: self.shelf_of[owner].twin() for owner in self.shelf_of}
        other.all_shares = {key: self.all_shares[key] for key in self.all_shares}
        other.all_terms = {key: self.all_terms[key] for key in self.all_terms}
        other.all_holds = list(self.all_holds)
        other.all_desks = [desk.twin() for desk in self.all_desks]
        return other
