"""Ways from house to house, and what a letter comes to by lists."""


def house_names(plan):
    """The NAMEs of the plan's houses, in its order."""
    return [house[0] for house in plan[0]]


def delays_of(plan):
    """The delay of each link, by its two houses, either way about."""
    told = {}
    for one, other, delay in plan[1]:
        told[one, other] = delay
        told[other, one] = delay
    return told


def sums_to(names, delays, goal):
    """The least sum of delays to the goal, of each house that has a way there."""
    sums = {goal: 0}
    # No way without a ring has as many links as there are houses, so these rounds are enough.
    for name in names:
        for pair in delays:
            one, other = pair
            if other in sums:
                through = sums[other] + delays[pair]
                sums[one] = min(sums.get(one, through), through)
    return sums


def next_house(plan, house, goal):
    """The next house on a shortest way, of several the first in the plan's order; None of no way."""
    names = house_names(plan)
    if goal not in names:
        return None
    delays = delays_of(plan)
    sums = sums_to(names, delays, goal)
    able = [name for name in names if (house, name) in delays and name in sums]
    return min(able, key=lambda name: delays[house, name] + sums[name], default=None)


def people_of(plan):
    """The addresses of all people, in the plan's order, as the keys of a dict."""
    return {(name, house[0]): True for house in plan[0] for name in house[1]}


def lists_of(plan):
    """The addresses in each list, by the list's own address, in the plan's order."""
    told = {}
    for house in plan[0]:
        for name, addresses in house[2]:
            told[name, house[0]] = tuple([tuple(address) for address in addresses])
    return told


def come_to(lists, address, come):
    """Puts into come, in order, this address and all that lists lead to from it, none twice."""
    if address not in come:
        come[address] = True
        for one in lists.get(address, ()):
            come_to(lists, one, come)


def comes_back(lists, address):
    """Whether a list leads to itself by lists."""
    come = {}
    for one in lists[address]:
        come_to(lists, one, come)
    return address in come


def reached(plan, address):
    """The tuple (people, rings, gone) of what a letter to the address comes to by lists alone."""
    people = people_of(plan)
    lists = lists_of(plan)
    come = {}
    come_to(lists, tuple(address), come)
    rings = [one for one in lists if one in come and comes_back(lists, one)]
    gone = [one for one in come if one not in people and one not in lists]
    return tuple([one for one in come if one in people]), tuple(rings), tuple(gone)
