"""Boxes, holds and desks told once more, by the plain words of points [13] to [17], from what was done."""

from letterhall.rules import holds, judged
from tests.halls import people_in


class Place:
    """What a house or a desk knows of one person's pieces: all deeds with their stamps."""

    def __init__(self, number, owner):
        self.number = number
        self.owner = owner
        self.brought = {}
        self.over = set()
        self.deeds = set()
        self.waits = []

    def do(self, deed):
        count = 1 + max([stamp[0] for stamp, known in self.deeds], default=0)
        self.deeds.add(((count, self.number), deed))

    def there(self, piece):
        return piece in self.brought and piece not in self.over and ("drop", piece) not in [deed for stamp, deed in self.deeds]

    def box(self, piece):
        files = sorted((stamp, deed[2]) for stamp, deed in self.deeds if deed[:2] == ("file", piece))
        return files[-1][1] if files else self.brought[piece][0]

    def marks(self, piece):
        told = {name: True for name in self.brought[piece][1]}
        for stamp, deed in sorted(self.deeds):
            if deed[:2] == ("mark", piece):
                told[deed[2]] = deed[3]
        return tuple(sorted(name for name in told if told[name]))

    def learn(self, other):
        self.brought = {**other.brought, **self.brought}
        self.over = self.over | other.over
        self.deeds = self.deeds | other.deeds


class Knowledge:
    """Follows a hall from deed to deed."""

    def __init__(self, plan):
        self.houses = {who: Place(0, who) for who in people_in(plan)}
        self.desks = []
        self.awake = {row[0]: True for row in plan[0]}
        self.now = 0
        self.terms = {}
        self.shares = {}
        self.holds = []
        self.facts = {}
        self.fates = {}
        self.letters = {}

    def bring(self, hall):
        """Takes in all pieces that were brought by the last deed, as the rules of that moment tell."""
        for number in range(hall.letters()):
            for copy, address, state in hall.copies(number):
                if state[0] == "brought" and copy not in self.facts:
                    self.facts[copy] = True
                    boxes, marks, ons, answers = judged(hall.rules_of(address), hall.letter(number))
                    tick = hall.trail(copy)[-1][0]
                    for row, box in zip(state[1], boxes, strict=True):
                        self.houses[address].brought[row[0]] = (box, marks)
                        self.letters[row[0]] = (number, tick, address, hall.letter(number))
                        self.fates[row[0]] = "there"

    def held(self, hold, piece):
        test, people = hold
        number, tick, owner, letter = self.letters[piece]
        return self.fates[piece] != "gone" and (people is None or owner in people) and holds(test, letter)

    def lose(self, piece):
        self.fates[piece] = "kept" if any(self.held(hold, piece) for hold in self.holds if hold) else "gone"

    def end_terms(self, now):
        for piece in sorted(self.letters):
            number, tick, owner, letter = self.letters[piece]
            place = self.houses[owner]
            term = self.terms.get((owner, place.box(piece)))
            if self.awake[owner[1]] and place.there(piece) and term is not None and now - tick >= term:
                place.over.add(piece)
                self.lose(piece)

    def follow(self, hall, entry, told):
        """One more deed was done."""
        word, *given = entry
        self.bring(hall)
        if word in ("file", "mark", "drop"):
            who, piece, *rest = given
            self.houses[self.letters[piece][2]].do((word, piece, *rest))
            if word == "drop":
                self.lose(piece)
        elif word in ("shut", "wake"):
            self.awake[given[0]] = word == "wake"
        elif word == "share":
            self.shares[given[0], given[1], given[2]] = given[3]
        elif word == "term":
            self.terms[given[0], given[1]] = given[2]
        elif word == "tick":
            for now in range(self.now + 1, hall.now() + 1):
                self.end_terms(now)
            self.now = hall.now()
        elif word == "hold":
            self.holds.append(tuple(given))
        elif word == "release":
            self.release(given[0])
        elif word == "desk":
            self.desks.append(Place(len(self.desks) + 1, given[0]))
            self.desks[-1].learn(self.houses[given[0]])
        elif word == "away":
            desk = self.desks[given[0] - 1]
            desk.do(given[1])
            desk.waits.append(given[1])
        elif word == "meet":
            return self.meet(self.desks[given[0] - 1]) == told
        return True

    def release(self, number):
        self.holds[number] = None
        for piece, fate in self.fates.items():
            if fate == "kept":
                self.lose(piece)

    def meet(self, desk):
        house = self.houses[desk.owner]
        pair = (len(desk.waits), len(house.deeds - desk.deeds))
        there = [piece for piece in house.brought if house.there(piece)]
        house.learn(desk)
        desk.learn(house)
        desk.waits = []
        for piece in there:
            if not house.there(piece):
                self.lose(piece)
        return pair

    def rows(self, place, box):
        return [(piece, self.letters[piece][0], self.letters[piece][1], place.marks(piece)) for piece in sorted(place.brought)
                if place.there(piece) and place.box(piece) == box]

    def seen(self, who):
        """All pieces that a person may see."""
        told = []
        for owner, place in self.houses.items():
            for piece in place.brought:
                if place.there(piece) and (owner == who or "see" in self.shares.get((owner, place.box(piece), who), ())):
                    told.append(piece)
        return sorted(told)
