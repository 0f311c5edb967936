"""Point [1], over many deeds: what holds behind each of them, whatever was done ahead."""

import collections
import unittest

from letterhall.letters import letter_text, read_letter
from letterhall.queries import is_query
from letterhall.routes import next_house
from letterhall.rules import holds, is_rules, is_test, judged
from tests.halls import NAMES, Walk, do, people_in, refused, replayed, told
from tests.knowledge import Knowledge
from tests.samples import signs

PAUSES = (1, 2, 4, 8)


def all_copies(hall):
    """All copies: the number of each, with its letter's number, address and state."""
    return {copy: (number, address, state) for number in range(hall.letters()) for copy, address, state in hall.copies(number)}


def at_text(address):
    return "@".join(address)


def is_auto(hall, number):
    return holds(("auto",), hall.letter(number))


def line_behind(hall, number):
    """The line of what answers a letter."""
    own = dict(hall.letter(number)[0]).get("line", "")
    return " ".join((own.split() + [str(number)])[-20:])


def delays(hall):
    return {frozenset(link[:2]): link[2] for link in hall.plan[1]}


class Walks(unittest.TestCase):

    def steps(self, seeds, many):
        """Each hall behind each deed of several walks."""
        for seed in seeds:
            walk = Walk(seed)
            for turn in range(many):
                entry, refusal = walk.step()
                yield walk.hall, entry, refusal

    def state_by_trail(self, hall, copy, address):
        """The state that comes of a copy's trail, as far as it does."""
        trail = hall.trail(copy)
        tick, home, word = trail[-1]
        if word in ("queue", "late", "back"):
            waits = max(at for at, row in enumerate(trail) if row[2] == "queue")
            tries = len([row for row in trail[waits:] if row[2] == "late"])
            due = tick + PAUSES[tries - 1] if word == "late" else tick
            return ("queue", home, next_house(hall.plan, home, address[1]), due, tries)
        if word == "left":
            onward = next_house(hall.plan, home, address[1])
            return ("link", home, onward, tick + delays(hall)[frozenset((home, onward))])
        return (word,)

    def check_states(self, hall, copies):
        self.assertEqual(sorted(copies), list(range(len(copies))))
        for copy, (number, address, state) in copies.items():
            by_trail = self.state_by_trail(hall, copy, address)
            self.assertEqual(state[:len(by_trail)], by_trail)
        waiting = [(copy, state[1]) for copy, (number, address, state) in copies.items() if state[0] == "queue"]
        going = [(copy, {state[1], state[2]}) for copy, (number, address, state) in copies.items() if state[0] == "link"]
        for row in hall.plan[0]:
            self.assertEqual(sorted(hall.queue(row[0])), sorted(copy for copy, home in waiting if home == row[0]))
        for one, other, delay in hall.plan[1]:
            self.assertEqual(sorted(hall.on_link(one, other)), sorted(copy for copy, ends in going if ends == {one, other}))
            self.assertEqual(hall.on_link(one, other), hall.on_link(other, one))

    def check_hops(self, hall, copies):
        lists = {(name, row[0]): addresses for row in hall.plan[0] for name, addresses in row[2]}
        begun = {made: copy for copy, (number, address, state) in copies.items() if state[0] in ("spread", "brought") for made in state[-1]}
        sent = collections.defaultdict(list)
        for copy, (number, address, state) in copies.items():
            own = [(home, tick) for tick, home, word in hall.trail(copy) if word == "came"]
            if copy in begun:
                parent = begun[copy]
                self.assertEqual(hall.passed(copy), hall.passed(parent) + (copies[parent][1],))
                self.assertEqual(hall.hops(copy), hall.hops(parent) + own)
            else:
                self.assertEqual((hall.passed(copy), hall.hops(copy)), ((), own))
                sent[number].append(at_text(address))
            if state[0] == "spread":
                self.assertEqual(tuple(copies[made][1] for made in state[1]), lists[address])
        for number in range(hall.letters()):
            self.assertEqual(" ".join(sent[number]), dict(hall.letter(number)[0])["to"])

    def check_none_twice(self, hall, copies):
        for word in ("brought", "spread"):
            come = [(number, address) for number, address, state in copies.values() if state[0] == word]
            self.assertEqual(len(come), len(set(come)))
        pieces = [row[0] for number, address, state in copies.values() if state[0] == "brought" for row in state[1]]
        self.assertEqual(sorted(pieces), list(range(len(pieces))))

    def check_tellings(self, hall, copies):
        due = []
        for copy, (number, address, state) in copies.items():
            if state[0] == "failed" and not is_auto(hall, number):
                home = hall.trail(copy)[-1][1]
                heads = (("from", "post@" + home), ("to", dict(hall.letter(number)[0])["from"]), ("about", "not brought " + state[1]),
                         ("line", line_behind(hall, number)), ("auto", "yes"))
                due.append((heads, ("words", signs(at_text(address)))))
        self.assertEqual(self.own_letters(hall, True), collections.Counter(due))

    def own_letters(self, hall, tellings):
        """What the hall sent itself, without the numbers: tellings, or answers."""
        found = []
        for number in range(hall.letters()):
            heads, body = hall.letter(number)
            if is_auto(hall, number) and dict(heads)["from"].startswith("post@") == tellings:
                self.assertEqual(heads[3], ("number", str(number)))
                found.append((heads[:3] + heads[4:], body))
        return collections.Counter(found)

    def test_transport(self):
        words_seen = collections.Counter()
        for seed in range(30):
            for hall, entry, refusal in self.steps((seed,), 60):
                copies = all_copies(hall)
                self.check_states(hall, copies)
                self.check_hops(hall, copies)
                self.check_none_twice(hall, copies)
                self.check_tellings(hall, copies)
            for number, address, state in copies.values():
                words_seen[state[:2] if state[0] == "failed" else state[0]] += 1
        for word in ("queue", "link", "spread", "again", "brought", ("failed", "noway"), ("failed", "code"), ("failed", "long"),
                     ("failed", "ring"), ("failed", "nobody"), ("failed", "late")):
            self.assertGreater(words_seen[word], 2, word)

    def test_answers_and_ons(self):
        answered = 0
        for seed in range(40, 70):
            seen, ever, due = {}, set(), []
            for hall, entry, refusal in self.steps((seed,), 60):
                copies = all_copies(hall)
                for copy, (number, address, state) in copies.items():
                    if state[0] == "brought" and copy not in seen:
                        seen[copy] = True
                        letter = hall.letter(number)
                        boxes, marks, ons, answers = judged(hall.rules_of(address), letter)
                        self.assertEqual(len(state[1]), len(boxes))
                        self.assertEqual(tuple(copies[made][1] for made in state[2]), ons)
                        heads = dict(letter[0])
                        for rule, text in answers:
                            key = (address, heads["from"], rule, text)
                            if not is_auto(hall, number) and key not in ever:
                                ever.add(key)
                                due.append(((("from", at_text(address)), ("to", heads["from"]), ("about", ("re " + heads["about"])[:40]),
                                             ("line", line_behind(hall, number)), ("auto", "yes")), ("words", signs(text))))
                # Which of two letters that came within one tick is answered is told by the order in which they came.
                found = self.own_letters(hall, False)
                self.assertEqual(sum(found.values()), len(due))
                self.assertEqual(collections.Counter((heads[0], heads[1], body) for (heads, body), many in found.items() for k in range(many)),
                                 collections.Counter((heads[0], heads[1], body) for heads, body in due))
            answered += len(due)
        self.assertGreater(answered, 20)

    def test_read_at_the_end_sign_for_sign(self):
        many = 0
        for seed in range(80, 110):
            read = set()
            for hall, entry, refusal in self.steps((seed,), 40):
                copies = all_copies(hall)
                for copy, (number, address, state) in copies.items():
                    for piece, box, word in state[1] if state[0] == "brought" else ():
                        if word == "there" and piece not in read:
                            read.add(piece)
                            text = hall.read(address, piece)
                            heads, body = hall.letter(number)
                            came = tuple(("came", home + " " + str(tick)) for home, tick in reversed(hall.hops(copy)))
                            passed = tuple(("passed", at_text(one)) for one in reversed(hall.passed(copy)))
                            self.assertEqual(read_letter(text), (came + passed + heads, body))
                            ways = [row[3] for row in hall.plan[0] if row[0] == address[1]][0]
                            self.assertEqual(text, letter_text((came + passed + heads, body), ways=ways))
            many += len(read)
        self.assertGreater(many, 200)

    def check_knowledge(self, hall, knows):
        for who, place in knows.houses.items():
            shown = sorted({place.box(piece) for piece in place.brought if place.there(piece)} | {"in"})
            self.assertEqual([box for owner, box in hall.boxes(who) if owner == who], shown)
            for box in NAMES:
                self.assertEqual(hall.pieces(who, who, box), knows.rows(place, box))
            self.assertEqual(hall.find(who, ("not", ("longer", 9999))), knows.seen(who))
        for desk in knows.desks:
            self.assertEqual(hall.desk_boxes(desk.number), sorted({desk.box(piece) for piece in desk.brought if desk.there(piece)}))
            self.assertEqual(hall.desk_waits(desk.number), desk.waits)
            for box in NAMES:
                self.assertEqual(hall.desk_pieces(desk.number, box), knows.rows(desk, box))
        for number, address, state in all_copies(hall).values():
            for piece, box, word in state[1] if state[0] == "brought" else ():
                self.assertEqual((box, word), (knows.houses[address].box(piece), knows.fates[piece]))
        for number, hold in enumerate(knows.holds):
            if hold is None:
                self.assertEqual(refused(hall.held, number), ("NoHold", number))
            else:
                self.assertEqual(hall.held(number), [piece for piece in sorted(knows.letters) if knows.held(hold, piece)])

    def test_boxes_holds_and_desks(self):
        fates = collections.Counter()
        for seed in range(120, 160):
            walk = Walk(seed)
            knows = Knowledge(walk.hall.plan)
            for turn in range(70):
                entry = walk.entry()
                answer = []
                refusal = refused(lambda: answer.append(do(walk.hall, entry)))
                if refusal is None:
                    self.assertTrue(knows.follow(walk.hall, entry, answer[0]), entry)
                self.check_knowledge(walk.hall, knows)
                if refusal is None and entry[0] == "meet":
                    desk = knows.desks[entry[1] - 1]
                    for box in NAMES:
                        self.assertEqual(walk.hall.desk_pieces(desk.number, box), walk.hall.pieces(desk.owner, desk.owner, box))
            fates.update(knows.fates.values())
        self.assertTrue(all(fates[word] > 10 for word in ("there", "kept", "gone")), fates)

    def test_searches(self):
        for seed in range(160, 185):
            walk = Walk(seed)
            for turn in range(40):
                walk.step()
            hall = walk.hall
            letters_of = {row[0]: number for number, address, state in all_copies(hall).values() if state[0] == "brought" for row in state[1]}
            for turn in range(30):
                test = walk.test()
                self.assertIs(is_test(test) and is_query(test), True)
                for who in people_in(hall.plan):
                    seen = hall.find(who, ("not", ("longer", 9999)))
                    self.assertEqual(hall.find(who, test), [piece for piece in seen if holds(test, hall.letter(letters_of[piece]))])

    def test_refusals_leave_all_as_it_was(self):
        for seed in range(185, 200):
            walk = Walk(seed)
            ahead = told(walk.hall)
            for turn in range(35):
                calls = walk.hall.calls()
                entry, refusal = walk.step()
                behind = told(walk.hall)
                if refusal is not None:
                    self.assertEqual(behind, ahead)
                ahead = behind
                self.assertEqual(walk.hall.calls(), calls + [("in", entry[0]), ("out", entry[0])])

    def test_all_hangs_on_plan_and_log(self):
        for seed in range(200, 220):
            walk = Walk(seed)
            twin = walk.hall.twin()
            for turn in range(45):
                if turn % 9 == 4:
                    twin = walk.hall.twin()
                    self.assertEqual((told(twin), twin.calls()), (told(walk.hall), walk.hall.calls()))
                entry, refusal = walk.step()
                self.assertEqual(refused(do, twin, entry), refusal)
            again = replayed(walk.hall.plan, walk.hall.log())
            self.assertEqual(told(twin), told(walk.hall))
            self.assertEqual(told(again), told(walk.hall))
            self.assertTrue(twin == walk.hall == again)
            self.assertTrue(all(is_rules(walk.hall.rules_of(who)) for who in walk.folk))


if __name__ == "__main__":
    unittest.main()
