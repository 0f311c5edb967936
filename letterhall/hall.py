"""A hall: all houses of a plan, kept over many deeds, and all that may be asked of them."""

from letterhall.basics import tupled
from letterhall.boxes import (boxes_seen, drop_piece, file_piece, mark_piece, pieces_found, pieces_seen, rights_told,
                              set_term, share_box, shelf_rows, text_read)
from letterhall.chart import Chart
from letterhall.checks import copy_at, desk_at, letter_at, need_house, need_link, need_person
from letterhall.desks import begin_desk, do_away, meet_house
from letterhall.errors import BadPlan
from letterhall.holds import begin_hold, end_hold, pieces_held
from letterhall.plans import is_plan
from letterhall.post import send_letter, set_rules
from letterhall.states import copy_rows
from letterhall.threads import threads_seen
from letterhall.ticks import copies_between, cut_link, pass_ticks, shut_house, tie_link, wake_house
from letterhall.world import World


class Hall:
    """All houses of a plan. What is done is logged, and all that is told hangs on plan and log alone."""

    def __init__(self, plan):
        if not is_plan(plan):
            raise BadPlan(plan)
        self.plan = plan
        self.world = World(Chart(plan))
        self.log_rows = []
        self.call_rows = []

    def do_deed(self, word, deed, given):
        """Does a deed with what was handed in; one that is refused is called, but not logged."""
        self.call_rows.append(("in", word))
        try:
            handed = tupled(given)
            told = deed(self.world, *handed)
            self.log_rows.append((word, *handed))
            return told
        finally:
            self.call_rows.append(("out", word))

    def send(self, sender, to, about, body, *, answers=None):
        """A person sends a letter; told is its number."""
        return self.do_deed("send", send_letter, (sender, to, about, body, answers))

    def rule(self, who, rules):
        """A person has these rules from now on."""
        return self.do_deed("rule", set_rules, (who, rules))

    def tick(self, *, many=1):
        """So many ticks go by; told is the tick then."""
        return self.do_deed("tick", pass_ticks, (many,))

    def shut(self, house):
        """A house is shut; told is whether anything is otherwise."""
        return self.do_deed("shut", shut_house, (house,))

    def wake(self, house):
        """A house is awake; told is whether anything is otherwise."""
        return self.do_deed("wake", wake_house, (house,))

    def cut(self, one, other):
        """A link is cut; told is whether anything is otherwise."""
        return self.do_deed("cut", cut_link, (one, other))

    def tie(self, one, other):
        """A link is tied; told is whether anything is otherwise."""
        return self.do_deed("tie", tie_link, (one, other))

    def file(self, who, piece, box):
        """A piece is in this box of its owner from now on."""
        return self.do_deed("file", file_piece, (who, piece, box))

    def mark(self, who, piece, name, *, on=True):
        """A piece has this mark, or hasn't, from now on."""
        return self.do_deed("mark", mark_piece, (who, piece, name, on))

    def drop(self, who, piece):
        """A piece is dropped."""
        return self.do_deed("drop", drop_piece, (who, piece))

    def share(self, who, box, other, rights):
        """Another person of the house has just these rights on who's box from now on."""
        return self.do_deed("share", share_box, (who, box, other, rights))

    def term(self, who, box, ticks):
        """Pieces in who's box are over behind so many ticks from now on, None: never."""
        return self.do_deed("term", set_term, (who, box, ticks))

    def hold(self, test, *, people=None):
        """Pieces of these people, None of all, of whose letter the test holds, never go; told is its number."""
        return self.do_deed("hold", begin_hold, (test, people))

    def release(self, number):
        """A hold is over."""
        return self.do_deed("release", end_hold, (number,))

    def desk(self, who):
        """A new desk of a person; told is its number."""
        return self.do_deed("desk", begin_desk, (who,))

    def away(self, number, deed):
        """A deed is done at a desk."""
        return self.do_deed("away", do_away, (number, deed))

    def meet(self, number):
        """Desk and house come to know the same; told is how many deeds either didn't know of."""
        return self.do_deed("meet", meet_house, (number,))

    def boxes(self, who):
        """The rising list of (owner, box) of all boxes that who may see."""
        return boxes_seen(self.world, tuple(who))

    def pieces(self, who, owner, box):
        """The rising list of (number, letter, tick, marks) of the pieces in a box."""
        return pieces_seen(self.world, tuple(who), tuple(owner), box)

    def read(self, who, piece):
        """The text of a piece, as it came."""
        return text_read(self.world, tuple(who), piece)

    def threads(self, who, owner, box):
        """The list of (number, deep) of the pieces in a box, each below that one which it answers."""
        return threads_seen(self.world, tuple(who), tuple(owner), box)

    def find(self, who, query):
        """The rising list of all pieces that who may see and of which the query holds."""
        return pieces_found(self.world, tuple(who), query)

    def held(self, number):
        """The rising list of the pieces that a hold holds."""
        return pieces_held(self.world, number)

    def desk_boxes(self, number):
        """The rising list of the boxes with pieces that are there, by what a desk knows."""
        return desk_at(self.world, number).shelf.boxes_there()

    def desk_pieces(self, number, box):
        """What pieces tells, by what a desk knows."""
        return shelf_rows(self.world, desk_at(self.world, number).shelf, box)

    def desk_waits(self, number):
        """The list of the deeds done at a desk since it last met."""
        return list(desk_at(self.world, number).waits)

    def now(self):
        """The tick."""
        return self.world.moment

    def is_awake(self, house):
        """Whether a house is awake."""
        need_house(self.world, house)
        return self.world.is_open(house)

    def is_tied(self, one, other):
        """Whether a link is tied."""
        need_link(self.world, one, other)
        return self.world.is_linked(one, other)

    def letters(self):
        """How many letters were sent."""
        return len(self.world.all_letters)

    def letter(self, number):
        """A letter, without the heads of its copies."""
        found = letter_at(self.world, number)
        return found.heads, found.body

    def copies(self, number):
        """The rising list of (copy, address, state) of all copies of a letter."""
        return copy_rows(self.world, letter_at(self.world, number))

    def trail(self, copy):
        """The list of (tick, house, word) of all that became of a copy."""
        return list(copy_at(self.world, copy).trail_rows)

    def passed(self, copy):
        """The tuple of the addresses that a copy has passed."""
        return copy_at(self.world, copy).passed_by

    def hops(self, copy):
        """The list of (house, tick) of a copy's hops."""
        return list(copy_at(self.world, copy).hop_rows)

    def queue(self, house):
        """The list of the copies that wait in a house, in order."""
        need_house(self.world, house)
        return list(self.world.queues[house])

    def on_link(self, one, other):
        """The list of the copies on a link, either way, in the order in which they went."""
        need_link(self.world, one, other)
        return copies_between(self.world, one, other)

    def rules_of(self, who):
        """A person's rules."""
        address = tuple(who)
        need_person(self.world, address)
        return self.world.all_rules.get(address, ())

    def rights(self, owner, box):
        """The list of (other, rights) of who else has rights on a box."""
        return rights_told(self.world, tuple(owner), box)

    def log(self, *, first=0):
        """The list of all deeds done, from this entry on."""
        return self.log_rows[max(first, 0):]

    def calls(self, *, first=0):
        """The list of the beginnings and ends of all deeds, done or refused, from this entry on."""
        return self.call_rows[max(first, 0):]

    def __len__(self):
        return len(self.world.all_letters)

    def __eq__(self, other):
        return isinstance(other, Hall) and self.plan == other.plan and self.log_rows == other.log_rows

    def twin(self):
        """A hall of its own that tells the same and goes on alike."""
        other = Hall(self.plan)
        other.world = self.world.twin()
        other.log_rows = list(self.log_rows)
        other.call_rows = list(self.call_rows)
        return other
