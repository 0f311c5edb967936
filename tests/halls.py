"""What the tests of a hall need: plans, deeds by their words, and all that a hall tells at once."""

import random

from letterhall.codes import WAYS
from letterhall.hall import Hall
from tests.samples import kinds, parts, some_writing, words

ANN, BOB, CID, DAN, EVE = ("ann", "elm"), ("bob", "elm"), ("cid", "oak"), ("dan", "oak"), ("eve", "ash")
ALL = ("any", ("auto",), ("not", ("auto",)))

ARGUMENTS = {
    "send": ("sender", "to", "about", "body", "answers"), "rule": ("who", "rules"), "tick": ("many",), "shut": ("house",),
    "wake": ("house",), "cut": ("one", "other"), "tie": ("one", "other"), "file": ("who", "piece", "box"),
    "mark": ("who", "piece", "name", "on"), "drop": ("who", "piece"), "share": ("who", "box", "other", "rights"),
    "term": ("who", "box", "ticks"), "hold": ("test", "people"), "release": ("number",), "desk": ("who",),
    "away": ("number", "deed"), "meet": ("number",),
}


def house(name, people, lists=(), ways=WAYS, most=9000):
    """A house with these people, their NAMEs parted by blanks."""
    return (name, tuple(people.split(" ")), tuple(lists), tuple(ways), most)


def three(elm=(), oak=(), ash=(), **given):
    """A hall of elm, oak and ash, in a row, with these lists."""
    houses = (house("elm", "ann bob", elm, **given), house("oak", "cid dan", oak, **given), house("ash", "eve", ash, **given))
    return Hall((houses, (("elm", "oak", 2), ("ash", "oak", 1))))


def one_house(*people, lists=()):
    """A hall of one house."""
    return Hall(((house("elm", " ".join(people), lists),), ()))


def send(hall, sender, *to, about="hi", text="x", answers=None):
    """Sends a letter of a text."""
    return hall.send(sender, to, about, words(text), answers=answers)


def on_all(*deeds):
    """Rules of one rule, of all letters."""
    return ((ALL, deeds),)


def state(hall, copy):
    """The state of one copy."""
    for number in range(hall.letters()):
        for row in hall.copies(number):
            if row[0] == copy:
                return row[2]
    return None


def states(hall, letter):
    """The states of all copies of a letter, by address."""
    return [(row[1], row[2]) for row in hall.copies(letter)]


def head(hall, letter, name):
    """The value of a letter's head, None of none."""
    return dict(hall.letter(letter)[0]).get(name)


def do(hall, entry):
    """Does what an entry of a log says."""
    return getattr(hall, entry[0])(**dict(zip(ARGUMENTS[entry[0]], entry[1:], strict=True)))


def replayed(plan, log):
    """A new hall with which all of a log was done."""
    hall = Hall(plan)
    for entry in log:
        do(hall, entry)
    return hall


def refused(ask, *given, **named):
    """The kind and the fields of the refusal, None where it isn't refused."""
    try:
        ask(*given, **named)
    except (LookupError, RuntimeError, ValueError) as error:
        return (type(error).__name__, *vars(error).values())
    return None


def people_in(plan):
    return [(name, row[0]) for row in plan[0] for name in row[1]]


def box_names(hall):
    """All NAMEs of boxes that could have been told of."""
    told = {"in"}
    for entry in hall.log():
        if entry[0] == "file":
            told.add(entry[3])
        if entry[0] in ("share", "term"):
            told.add(entry[2])
        if entry[0] == "away" and entry[2][0] == "file":
            told.add(entry[2][2])
        if entry[0] == "rule":
            told |= {deed[1] for test, deeds in entry[2] for deed in deeds if deed[0] == "file"}
    return sorted(told)


def count_of(hall, word):
    return len([entry for entry in hall.log() if entry[0] == word])


def told_of_boxes(hall):
    """All that people are told of boxes."""
    people = people_in(hall.plan)
    names = box_names(hall)
    told = {}
    for who in people:
        told["boxes", who] = hall.boxes(who)
        told["find", who] = hall.find(who, ALL)
        told["read", who] = [hall.read(who, piece) for piece in told["find", who]]
        for owner in people:
            for box in names:
                told["pieces", who, owner, box] = refused(hall.pieces, who, owner, box) or hall.pieces(who, owner, box)
                told["threads", who, owner, box] = refused(hall.threads, who, owner, box) or hall.threads(who, owner, box)
        for box in names:
            told["rights", who, box] = hall.rights(who, box)
    for number in range(count_of(hall, "hold")):
        told["held", number] = refused(hall.held, number) or hall.held(number)
    for number in range(1, count_of(hall, "desk") + 1):
        told["desk", number] = (hall.desk_boxes(number), hall.desk_waits(number))
        for box in names:
            told["desk", number, box] = hall.desk_pieces(number, box)
    return told


def told_of_letters(hall):
    """All that is told of letters, copies, houses and links."""
    many = hall.letters()
    copies = sorted(row[0] for number in range(many) for row in hall.copies(number))
    told = {"letters": many, "len": len(hall), "now": hall.now(), "log": hall.log()}
    told["letter"] = [hall.letter(number) for number in range(many)]
    told["copies"] = [hall.copies(number) for number in range(many)]
    told["each"] = [(copy, hall.trail(copy), hall.passed(copy), hall.hops(copy)) for copy in copies]
    for row in hall.plan[0]:
        told["house", row[0]] = (hall.is_awake(row[0]), hall.queue(row[0]))
    for one, other, delay in hall.plan[1]:
        told["link", one, other] = (hall.is_tied(one, other), hall.on_link(one, other), hall.on_link(other, one))
    for who in people_in(hall.plan):
        told["rules", who] = hall.rules_of(who)
    return told


def told(hall):
    """All that a hall tells but calls, kind by kind, so that 1 isn't True."""
    both = {**told_of_letters(hall), **told_of_boxes(hall)}
    return {key: kinds(worth) for key, worth in both.items()}


NAMES = ("in", "box", "old", "new")


class Walk:
    """Deeds picked by chance, always the same ones of one seed."""

    def __init__(self, seed):
        self.chance = random.Random(seed)
        self.hall = Hall(self.plan())
        self.first = [("desk", who) for who in self.folk[:2] + self.folk[:1]] + [("rule", who, self.rules()) for who in self.folk[::2]]

    def plan(self):
        pick = self.chance
        names = pick.sample(("elm", "oak", "ash", "fir", "yew"), pick.randint(1, 5))
        folk = [(name, home) for home in names for name in pick.sample(("ann", "bob", "cid", "dan"), pick.randint(1, 4))]
        lists = [(name, home) for home in names for name in pick.sample(("all", "some", "few"), pick.randint(0, 3))]
        self.names = names
        self.folk = folk
        self.places = folk * 2 + lists * 2 + [("zed", names[0]), ("ann", "nowhere"), ("post", names[-1])]
        houses = tuple((home, tuple(name for name, at in folk if at == home),
                        tuple((name, self.some_addresses()) for name, at in lists if at == home),
                        pick.choice((WAYS, WAYS, ("marked",), ("packed",), ("plain",), ("plain", "packed"))),
                        pick.choice((400, 500, 900, 9000, 9000))) for home in names)
        pairs = [(one, other) for at, one in enumerate(names) for other in names[at + 1:]]
        links = pick.sample(pairs, min(len(pairs), pick.randint(max(0, len(names) - 2), 8)))
        self.links = links
        return (houses, tuple((*pick.sample(pair, 2), pick.randint(1, 4)) for pair in links))

    def some_addresses(self):
        found = self.chance.sample(self.places, min(len(self.places), self.chance.randint(1, 4)))
        return tuple(dict.fromkeys(found))

    def body(self):
        if self.chance.random() < 0.6:
            return words(self.chance.choice(("", "Tea at 5", "the hall", "abcdefghijklmnop", "x" * 300)))
        if self.chance.random() < 0.5:
            return ("words", some_writing(self.chance))
        return parts(((), ("words", some_writing(self.chance))), ((("from", "x"),), parts(((), words("deep one")))))

    def test(self, deep=4):
        pick = self.chance
        word = pick.choice(("from", "to", "word", "about", "longer", "auto", "all", "all") + ("not", "both", "any") * (deep > 1))
        if word in ("from", "to"):
            return (word, pick.choice(self.places))
        if word in ("word", "about"):
            return (word, pick.choice(("tea", "hall", "at", "re", "not", "5")))
        if word in ("longer", "auto"):
            return (word, pick.choice((0, 3, 8))) if word == "longer" else (word,)
        if word == "all":
            return ("longer", 0) if deep == 1 else ("not", ("longer", 9999))
        return (word, *[self.test(deep - 1) for k in range(1 if word == "not" else 2)])

    def rules(self):
        pick = self.chance
        deeds = (("file", "old"), ("file", "new"), ("mark", "seen"), ("mark", "hot"), ("drop",), ("stop",)) + (("answer", "gone"), ("answer", "back at 5")) * 2
        return tuple((self.test(pick.choice((1, 2, 4))), tuple(("on", pick.choice(self.places)) if pick.random() < 0.4 else pick.choice(deeds)
                                         for each in range(pick.randint(1, 3)))) for k in range(pick.randint(0, 3)))

    def piece(self, seen=()):
        """Mostly one of those that are seen."""
        if seen and self.chance.random() < 0.9:
            return self.chance.choice(seen)
        return self.chance.randint(0, 12)

    def away(self):
        """A desk, mostly one that there is, and a deed done there."""
        pick = self.chance
        desks = count_of(self.hall, "desk")
        number = pick.randint(1, desks) if desks and pick.random() < 0.95 else desks + 1
        seen = [] if number > desks else [row[0] for box in self.hall.desk_boxes(number) for row in self.hall.desk_pieces(number, box)]
        piece = self.piece(seen)
        return (number, pick.choice((("file", piece, pick.choice(NAMES)), ("mark", piece, pick.choice(("seen", "hot")), pick.random() < 0.6),
                                     ("file", piece, pick.choice(NAMES)), ("drop", piece))))

    def some_people(self):
        return self.chance.choice((None, None, (), tuple(self.chance.sample(self.folk, 1)), tuple(self.folk[:2])))

    def entry(self):
        """A deed that may be refused; first of all some rules and desks come into being."""
        if self.first:
            return self.first.pop()
        pick = self.chance
        who = pick.choice(self.folk)
        often = ("send", "tick") * 8 + ("away", "wake", "meet", "rule", "file") * 3 + ("mark", "hold", "tie", "share", "term", "drop")
        word = pick.choice(often + tuple(ARGUMENTS))
        if word in ("cut", "tie") and not self.links:
            word = "tick"
        mail = self.hall.letters()
        seen = self.hall.find(who, ALL)
        given = {
            "send": lambda: (who, self.some_addresses(), pick.choice(("", "tea", "a hall", "x" * 40)), self.body(),
                             pick.choice((None, mail - 1 if mail else None, pick.randint(0, mail)))),
            "rule": lambda: (who, self.rules()), "tick": lambda: (pick.choice((1, 1, 1, 2, 9)),),
            "shut": lambda: (pick.choice(self.names),), "wake": lambda: (pick.choice(self.names),),
            "cut": lambda: pick.choice(self.links), "tie": lambda: pick.choice(self.links)[::-1],
            "file": lambda: (who, self.piece(seen), pick.choice(NAMES)), "drop": lambda: (who, self.piece(seen)),
            "mark": lambda: (who, self.piece(seen), pick.choice(("seen", "hot")), pick.random() < 0.6),
            "share": lambda: (who, pick.choice(NAMES), pick.choice(self.folk),
                              tuple(pick.sample(("see", "file", "mark", "drop"), pick.randint(0, 4)))),
            "term": lambda: (who, pick.choice(NAMES), pick.choice((None, 1, 2, 5))),
            "hold": lambda: (self.test(), self.some_people()), "release": lambda: (pick.randint(0, max(0, count_of(self.hall, "hold") - 1)),),
            "desk": lambda: (who,), "away": self.away, "meet": lambda: (pick.randint(1, max(1, count_of(self.hall, "desk"))),),
        }
        return (word, *given[word]())

    def step(self):
        """Does one deed; told is the entry, and the refusal or None."""
        entry = self.entry()
        return entry, refused(do, self.hall, entry)
