"""Sheets told once more: each row done with a hall by its own plain words; and rows with chance."""

from letterhall.hall import Hall
from letterhall.texts import plan_in
from tests.samples import words

ALL = ("any", ("auto",), ("not", ("auto",)))
STATES = ("queue", "link", "spread", "again", "brought")


def at(word):
    """The address of NAME@NAME."""
    return tuple(word.split("@"))


def text_of(word):
    return "" if word == "-" else word.replace("_", " ")


def where(hall, number):
    return ["@".join(address) + " " + (state[0] if state[0] in STATES else "failed " + state[1]) for copy, address, state in hall.copies(int(number))]


ROWS = {
    "send": lambda hall, who, to, about, text: hall.send(at(who), tuple(map(at, to.split(","))), text_of(about), words(text_of(text))),
    "answer": lambda hall, number, who, to, about, text: hall.send(at(who), tuple(map(at, to.split(","))), text_of(about), words(text_of(text)), answers=int(number)),
    "tick": lambda hall, many: hall.tick(many=int(many)),
    "shut": lambda hall, house: hall.shut(house), "wake": lambda hall, house: hall.wake(house),
    "cut": lambda hall, one, other: hall.cut(one, other), "tie": lambda hall, one, other: hall.tie(one, other),
    "on": lambda hall, who, other: hall.rule(at(who), ((ALL, (("on", at(other)),)),)),
    "into": lambda hall, who, box, word: hall.rule(at(who), ((("word", word), (("file", box),)),)),
    "says": lambda hall, who, text: hall.rule(at(who), ((ALL, (("answer", text_of(text)), ("file", "in"))),)),
    "file": lambda hall, who, piece, box: hall.file(at(who), int(piece), box),
    "mark": lambda hall, who, piece, name: hall.mark(at(who), int(piece), name),
    "drop": lambda hall, who, piece: hall.drop(at(who), int(piece)),
    "term": lambda hall, who, box, ticks: hall.term(at(who), box, int(ticks)),
    "hold": lambda hall, word: hall.hold(("word", word)), "release": lambda hall, number: hall.release(int(number)),
    "desk": lambda hall, who: hall.desk(at(who)), "meet": lambda hall, number: hall.meet(int(number)),
    "where": where,
    "box": lambda hall, who, box: [str(row[0]) + " " + str(row[1]) for row in hall.pieces(at(who), at(who), box)],
    "find": lambda hall, who, word: hall.find(at(who), ("word", word)),
    "queue": lambda hall, house: hall.queue(house), "now": lambda hall: hall.now(),
}


def shown(told):
    """What is told, as an answer."""
    if told is None or isinstance(told, bool):
        return {None: "ok", True: "yes", False: "no"}[told]
    if isinstance(told, list):
        return "; ".join(map(str, told)) if told else "-"
    return " ".join(map(str, told)) if isinstance(told, tuple) else str(told)


def hall_answers(text):
    """The answers of a sheet, and the hall behind it."""
    plan, rows = text.split("\nbegin")
    hall = Hall(plan_in(plan))
    told = []
    for row in rows.split("\n")[1:]:
        word, *given = row.split(" ")
        try:
            told.append(shown(ROWS[word](hall, *given)))
        except (LookupError, RuntimeError) as error:
            told.append("refused " + type(error).__name__)
    return told, hall


class SheetChance:
    """Rows of all sorts, picked by chance."""

    def __init__(self, chance, walk):
        self.pick = chance
        self.folk = ["@".join(who) for who in walk.folk]
        self.places = ["@".join(place) for place in walk.places]
        self.houses = walk.names
        self.links = walk.links or [(walk.names[0], "nowhere")]

    def house(self):
        return self.pick.choice(self.houses) if self.pick.random() < 0.95 else "nowhere"

    def who(self):
        return self.pick.choice(self.folk) if self.pick.random() < 0.95 else "zed@" + self.houses[0]

    def to(self):
        found = list(dict.fromkeys(self.pick.sample(self.places, min(len(self.places), self.pick.randint(1, 4)))))
        return ",".join(found)

    def text(self):
        return self.pick.choice(("-", "tea", "a_b", "tea_at_5", "_", "x" * 61, "hall_tea"))

    def row(self):
        pick = self.pick
        number = str(pick.choice((0, 0, 1, 1, 2, 3, 4, 7, 12)))
        word = pick.choice(("tea", "hall", "not", "x"))
        box = pick.choice(("in", "old", "new"))
        about = pick.choice(("-", "tea", "x" * 40))
        many = str(pick.choice((1, 1, 2, 3, 9)))
        pair = " ".join(pick.sample(pick.choice(self.links), 2) if pick.random() < 0.9 else [self.house()] * 2)
        given = {
            "send": [self.who(), self.to(), about, self.text()], "answer": [number, self.who(), self.to(), about, self.text()], "tick": [many],
            "shut": [self.house()], "wake": [self.house()], "cut": [pair], "tie": [pair], "on": [self.who(), pick.choice(self.places)],
            "into": [self.who(), box, word], "says": [self.who(), pick.choice(("gone", "back_at_5", "_"))], "file": [self.who(), number, box],
            "mark": [self.who(), number, "hot"], "drop": [self.who(), number], "term": [self.who(), box, many], "hold": [word], "release": [number],
            "desk": [self.who()], "meet": [number], "where": [number], "box": [self.who(), box], "find": [self.who(), word], "queue": [self.house()], "now": [],
        }
        often = ["send"] * 6 + ["tick"] * 6 + ["wake", "tie", "where", "box", "find"] * 2
        sort = pick.choice(often + sorted(given))
        return " ".join([sort] + given[sort])
