"""Plans: houses, who lives there, and the links between them."""

from letterhall.basics import all_unlike, is_name, is_tuple, is_within
from letterhall.codes import WAYS

MOST_HOUSES = 5
MOST_PEOPLE = 4
MOST_LISTS = 3
MOST_ADDRESSES = 4
MOST_LINKS = 8
LEAST_MOST = 400
GREATEST_MOST = 9000
MOST_DELAY = 4

# Each house writes tellings by this name, so nobody in it may have it.
NOBODYS_NAME = "post"


def is_address(thing):
    """Whether it is an address."""
    return is_tuple(thing, 2, 2) and is_name(thing[0]) and is_name(thing[1])


def is_people(thing):
    """Whether these are the people of a house."""
    return is_tuple(thing, 1, MOST_PEOPLE) and all([is_name(name) for name in thing])


def is_list_of_house(thing):
    """Whether it is a pair (NAME, addresses)."""
    if not is_tuple(thing, 2, 2) or not is_name(thing[0]):
        return False
    addresses = thing[1]
    if not is_tuple(addresses, 1, MOST_ADDRESSES):
        return False
    return all([is_address(address) for address in addresses]) and all_unlike(addresses)


def is_lists(thing):
    """Whether these are the lists of a house."""
    return is_tuple(thing, 0, MOST_LISTS) and all([is_list_of_house(row) for row in thing])


def is_ways(thing):
    """Whether these are the ways of a house: some of WAYS, in that order."""
    return is_tuple(thing, 1, len(WAYS)) and thing == tuple([way for way in WAYS if way in thing])


def is_house(thing):
    """Whether it is a house of a plan."""
    if not is_tuple(thing, 5, 5):
        return False
    name, people, lists, ways, most = thing
    if not is_name(name) or not is_people(people) or not is_lists(lists):
        return False
    names = list(people) + [row[0] for row in lists]
    if NOBODYS_NAME in names or not all_unlike(names):
        return False
    return is_ways(ways) and is_within(most, LEAST_MOST, GREATEST_MOST)


def is_houses(thing):
    """Whether these are the houses of a plan."""
    if not is_tuple(thing, 1, MOST_HOUSES) or not all([is_house(house) for house in thing]):
        return False
    return all_unlike([house[0] for house in thing])


def is_link(thing, names):
    """Whether it is a link between two of the houses with these names."""
    if not is_tuple(thing, 3, 3) or thing[0] not in names or thing[1] not in names:
        return False
    return thing[0] != thing[1] and is_within(thing[2], 1, MOST_DELAY)


def is_links(thing, names):
    """Whether these are the links of a plan with houses of these names."""
    if not is_tuple(thing, 0, MOST_LINKS) or not all([is_link(link, names) for link in thing]):
        return False
    # Sorted, because the same two houses either way about are one link.
    return all_unlike([tuple(sorted(link[:2])) for link in thing])


def is_plan(thing):
    """Whether it is a plan."""
    if not is_tuple(thing, 2, 2) or not is_houses(thing[0]):
        return False
    return is_links(thing[1], [house[0] for house in thing[0]])
