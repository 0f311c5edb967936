"""What deeds and asks need, and the refusals where it's wanting."""

from letterhall.errors import NoCopy, NoDesk, NoHold, NoHouse, NoLetter, NoLink, NoOne, Shut


def need_person(world, address):
    """Refused where the address isn't a person's."""
    if address not in world.chart.people:
        raise NoOne(address)


def need_house(world, house):
    """Refused where the plan hasn't this house."""
    if house not in world.chart.house_list:
        raise NoHouse(house)


def need_link(world, one, other):
    """Refused where the plan hasn't one of these houses, or no link between them."""
    need_house(world, one)
    need_house(world, other)
    if (one, other) not in world.chart.delays:
        raise NoLink(one, other)


def need_awake(world, house):
    """Refused where the house is shut."""
    if not world.is_open(house):
        raise Shut(house)


def need_doer(world, who):
    """Refused where who isn't a person's address, or that person's house is shut."""
    need_person(world, who)
    need_awake(world, who[1])


def letter_at(world, number):
    """The letter with this number."""
    if not 0 <= number < len(world.all_letters):
        raise NoLetter(number)
    return world.all_letters[number]


def copy_at(world, number):
    """The copy with this number."""
    if not 0 <= number < len(world.all_copies):
        raise NoCopy(number)
    return world.all_copies[number]


def hold_at(world, number):
    """The hold with this number, where it isn't over."""
    if not 0 <= number < len(world.all_holds) or world.all_holds[number] is None:
        raise NoHold(number)
    return world.all_holds[number]


def desk_at(world, number):
    """The desk with this number; the first one is 1."""
    if not 1 <= number <= len(world.all_desks):
        raise NoDesk(number)
    return world.all_desks[number - 1]
