"""What each tick brings, and houses and links that are shut and cut, woken and tied again."""

from letterhall.checks import need_house, need_link
from letterhall.holds import keep_or_lose
from letterhall.post import come, fail, note

# How long a copy waits behind each try; by one try more it is late.
PAUSES = (1, 2, 4, 8)


def pass_ticks(world, many):
    """So many ticks go by; told is the tick then."""
    for turn in range(many):
        world.moment += 1
        arrive(world)
        depart(world)
        end_terms(world)
    return world.moment


def arrive(world):
    """Copies that are due come to the houses to which their links lead, in the order in which they went."""
    on_links = [world.all_copies[number] for number in world.under_way]
    for copy in on_links:
        word, house, onward, due = copy.state
        if due <= world.moment:
            del world.under_way[copy.number]
            come(world, copy, onward)


def awake_houses(world):
    """The houses that are awake, in the plan's order."""
    return [house for house in world.chart.house_list if world.is_open(house)]


def depart(world):
    """Copies that are due leave their houses, or have a try more."""
    # Looked at ahead of all, because what comes of a late one waits for the next tick.
    waiting = [number for house in awake_houses(world) for number in world.queues[house]]
    for number in waiting:
        copy = world.all_copies[number]
        word, house, onward, due, tries = copy.state
        if due > world.moment:
            continue
        if world.is_open(onward) and world.is_linked(house, onward):
            leave(world, copy, house, onward)
        else:
            try_once_more(world, copy, house, onward)


def leave(world, copy, house, onward):
    """A copy goes from its queue onto the link."""
    del world.queues[house][copy.number]
    world.under_way[copy.number] = True
    copy.state = ("link", house, onward, world.moment + world.chart.delays[house, onward])
    note(world, copy, house, "left")


def try_once_more(world, copy, house, onward):
    """A copy that can't go has a try more, and stays in its place as long as it has any left."""
    copy.tries += 1
    note(world, copy, house, "late")
    if copy.tries > len(PAUSES):
        del world.queues[house][copy.number]
        fail(world, copy, house, "late")
    else:
        due = world.moment + PAUSES[copy.tries - 1]
        copy.state = ("queue", house, onward, due, copy.tries)


def pieces_over(world, house):
    """The rising list of the pieces of a house that are over now."""
    told = []
    for owner, box in world.all_terms:
        if owner[1] == house:
            born = world.moment - world.all_terms[owner, box]
            numbers = world.shelf_of[owner].there_in(box)
            told.extend([number for number in numbers if world.all_pieces[number].brought_at <= born])
    return sorted(told)


def end_terms(world):
    """Pieces that have been there for their box's term are over, in houses that are awake."""
    for house in awake_houses(world):
        for number in pieces_over(world, house):
            piece = world.all_pieces[number]
            world.shelf_of[piece.owner].end(number)
            keep_or_lose(world, piece)


def go_back(world, copy):
    """A copy on a link goes back behind all in the queue from which it went, its tries as they were."""
    word, house, onward, due = copy.state
    del world.under_way[copy.number]
    world.queues[house][copy.number] = True
    copy.state = ("queue", house, onward, world.moment, copy.tries)
    note(world, copy, house, "back")


def shut_house(world, house):
    """A house is shut; told is whether it wasn't so ahead."""
    need_house(world, house)
    if not world.is_open(house):
        return False
    world.shut_houses[house] = True
    for number in list(world.under_way):
        copy = world.all_copies[number]
        if house in copy.state[1:3]:
            go_back(world, copy)
    return True


def wake_house(world, house):
    """A house is awake; told is whether it wasn't so ahead."""
    need_house(world, house)
    if world.is_open(house):
        return False
    del world.shut_houses[house]
    return True


def copies_between(world, one, other):
    """The list of the copies on a link, either way, in the order in which they went."""
    ends = ((one, other), (other, one))
    return [number for number in world.under_way if world.all_copies[number].state[1:3] in ends]


def cut_link(world, one, other):
    """A link is cut; told is whether it wasn't so ahead."""
    need_link(world, one, other)
    if not world.is_linked(one, other):
        return False
    world.cut_links[one, other] = True
    world.cut_links[other, one] = True
    for number in copies_between(world, one, other):
        go_back(world, world.all_copies[number])
    return True


def tie_link(world, one, other):
    """A link is tied; told is whether it wasn't so ahead."""
    need_link(world, one, other)
    if world.is_linked(one, other):
        return False
    del world.cut_links[one, other]
    del world.cut_links[other, one]
    return True
