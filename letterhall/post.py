"""How letters are sent, and what becomes of a copy at a house to which it comes."""

from letterhall.basics import address_text
from letterhall.checks import letter_at, need_doer
from letterhall.codes import can_code, signs_of
from letterhall.errors import NoWay
from letterhall.facts import writings_of
from letterhall.plans import NOBODYS_NAME
from letterhall.rules import judged_by
from letterhall.world import Copy, Letter, Piece

MOST_LINE = 20
MOST_PASSED = 8
MOST_ABOUT = 40


def note(world, copy, house, word):
    """Puts into a copy's trail what became of it just now."""
    copy.trail_rows.append((world.moment, house, word))


def line_behind(letter):
    """The line of a letter that answers this one."""
    return (letter.line + (letter.number,))[-MOST_LINE:]


def new_letter(world, sender, to, about, body, answered, is_auto):
    """A letter with its heads and the next number; answered is the letter that it answers, or None."""
    number = len(world.all_letters)
    line = () if answered is None else line_behind(answered)
    heads = [("from", address_text(sender)), ("to", " ".join([address_text(address) for address in to])),
             ("about", about), ("number", f"{number}")]
    if answered is not None:
        heads.append(("line", " ".join([str(one) for one in line])))
    if is_auto:
        heads.append(("auto", "yes"))
    letter = Letter(number, sender, tuple(heads), body, line)
    world.all_letters.append(letter)
    world.copies_of.append([])
    return letter


def new_copy(world, letter_number, address, passed_by, hop_rows):
    """A copy with the next number."""
    copy = Copy(len(world.all_copies), letter_number, address, passed_by, hop_rows)
    world.all_copies.append(copy)
    world.copies_of[letter_number].append(copy.number)
    return copy


def post(world, letter, to):
    """Sends a letter's copies, each with all that comes of it ahead of the next."""
    house = letter.sender[1]
    for address in to:
        copy = new_copy(world, letter.number, address, (), ())
        come(world, copy, house)


def post_auto(world, sender, about, text, answered):
    """The hall itself answers a letter."""
    body = ("words", tuple(signs_of(text)))
    to = (answered.sender,)
    post(world, new_letter(world, sender, to, about, body, answered, True), to)


def come(world, copy, house):
    """A copy comes to a house, a hop more."""
    copy.hop_rows = copy.hop_rows + ((house, world.moment),)
    note(world, copy, house, "came")
    become(world, copy, house)


def become(world, copy, house):
    """What becomes of a copy at the house where it is."""
    if copy.address[1] != house:
        queue_up(world, copy, house)
    elif copy.address in copy.passed_by:
        fail(world, copy, house, "ring")
    elif len(copy.passed_by) > MOST_PASSED:
        fail(world, copy, house, "far")
    elif copy.address in world.chart.lists or copy.address in world.chart.people:
        reach(world, copy, house)
    else:
        fail(world, copy, house, "nobody")


def copy_heads(hop_rows, passed_by):
    """The heads that a copy with these hops and passed addresses has ahead of its letter's."""
    came = [("came", f"{house} {tick}") for house, tick in reversed(hop_rows)]
    return came + [("passed", address_text(address)) for address in reversed(passed_by)]


def copy_text(world, copy, ways):
    """The text of a copy by these ways; refused NoWay."""
    letter = world.all_letters[copy.letter_number]
    return letter.text_behind(copy_heads(copy.hop_rows, copy.passed_by), ways)


def fault_onward(world, copy, onward):
    """Why a copy can't go to this next house, None where it can."""
    if onward is None:
        return "noway"
    try:
        text = copy_text(world, copy, world.chart.ways_of[onward])
    except NoWay:
        return "code"
    return "long" if len(text) > world.chart.most_of[onward] else None


def queue_up(world, copy, house):
    """A copy for another house waits for the next one, where it can go there."""
    onward = world.chart.toward(house, copy.address[1])
    fault = fault_onward(world, copy, onward)
    if fault is not None:
        fail(world, copy, house, fault)
        return
    copy.tries = 0
    copy.state = ("queue", house, onward, world.moment, 0)
    world.queues[house][copy.number] = True
    note(world, copy, house, "queue")


def fail(world, copy, house, word):
    """A copy is over; the house tells it to who sent the letter, but not of what a hall sent itself."""
    copy.state = ("failed", word)
    note(world, copy, house, "failed")
    letter = world.all_letters[copy.letter_number]
    if not letter.is_auto:
        sender = (NOBODYS_NAME, house)
        post_auto(world, sender, f"not brought {word}", address_text(copy.address), letter)


def reach(world, copy, house):
    """A copy has come to a list or a person; each letter is spread or brought there only once."""
    key = (copy.letter_number, copy.address)
    if key in world.come_ahead:
        copy.state = ("again",)
        note(world, copy, house, "again")
        return
    # Ahead of all that comes of it, or a ring wouldn't end.
    world.come_ahead[key] = True
    if copy.address in world.chart.lists:
        spread(world, copy, house)
    else:
        bring(world, copy, house)


def pass_on(world, copy, house, address):
    """A new copy, made of one that is over at this house."""
    passed_by = copy.passed_by + (copy.address,)
    made = new_copy(world, copy.letter_number, address, passed_by, copy.hop_rows)
    copy.made_copies.append(made.number)
    become(world, made, house)


def spread(world, copy, house):
    """A list makes a copy for each of its addresses."""
    copy.state = ("spread",)
    note(world, copy, house, "spread")
    for address in world.chart.lists[copy.address]:
        pass_on(world, copy, house, address)


def bring(world, copy, house):
    """A person gets the letter: pieces, copies sent on, and answers, by that person's rules."""
    copy.state = ("brought",)
    note(world, copy, house, "brought")
    letter = world.all_letters[copy.letter_number]
    boxes, marks, ons, answers = judged_by(world.all_rules.get(copy.address, ()), letter.facts)
    for box in boxes:
        add_piece(world, copy, box, marks)
    for address in ons:
        pass_on(world, copy, house, address)
    for number, text in answers:
        answer(world, copy.address, letter, number, text)


def add_piece(world, copy, box, marks):
    """A piece comes to a box of the copy's person."""
    piece = Piece(len(world.all_pieces), copy.address, copy.letter_number, copy.number, world.moment)
    world.all_pieces.append(piece)
    copy.made_pieces.append(piece.number)
    world.shelf_of[piece.owner].bring(piece.number, box, marks)


def answer(world, person, letter, number, text):
    """A person's rule answers a letter, but nothing of a hall's own, and nobody twice alike."""
    key = (person, letter.sender, number, text)
    if letter.is_auto or key in world.answered:
        return
    world.answered[key] = True
    about = "re " + letter.facts.firsts["about"]
    post_auto(world, person, about[:MOST_ABOUT], text, letter)


def has_way(writing, ways):
    """Whether a writing can be coded by any of these ways."""
    return any([can_code(writing, way) for way in ways])


def send_letter(world, sender, to, about, body, answers):
    """A person sends a letter; told is its number."""
    need_doer(world, sender)
    answered = None if answers is None else letter_at(world, answers)
    ways = world.chart.ways_of[sender[1]]
    if not all([has_way(writing, ways) for writing in writings_of(body)]):
        raise NoWay()
    letter = new_letter(world, sender, to, about, body, answered, False)
    post(world, letter, to)
    return letter.number


def set_rules(world, who, rules):
    """A person has these rules from now on."""
    need_doer(world, who)
    world.all_rules[who] = rules
