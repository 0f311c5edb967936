"""Plans as texts: a row for each house, person, list and link, and the plan read back from them."""

from letterhall.basics import address_text
from letterhall.errors import BadLine
from letterhall.lines import words_read
from letterhall.plans import is_plan


def house_rows(house):
    """The rows of a house, its people and its lists."""
    name, people, lists, ways, most = house
    rows = [" ".join(["house", name, str(most), *ways])]
    rows.extend([f"one {person}" for person in people])
    for list_name, addresses in lists:
        rows.append(" ".join(["list", list_name] + [address_text(address) for address in addresses]))
    return rows


def plan_text(plan):
    """The text of a plan."""
    houses, links = plan
    rows = [row for house in houses for row in house_rows(house)]
    return "\n".join(rows + [f"link {one} {other} {delay}" for one, other, delay in links])


class HouseDraft:
    """A house of which rows are being read."""

    def __init__(self, name, most, ways):
        self.name = name
        self.most = most
        self.ways = ways
        self.people = []
        self.lists = []

    def whole(self):
        """The house as a plan has it."""
        return self.name, tuple(self.people), tuple(self.lists), self.ways, self.most


class Draft:
    """A plan of which rows are being read, one behind the other."""

    def __init__(self):
        self.houses = []
        self.links = []

    def last_house(self):
        """The house to which people and lists can be put, None where none can."""
        return self.houses[-1] if self.houses and not self.links else None

    def whole(self):
        """What the rows say, a plan or not."""
        return tuple([house.whole() for house in self.houses]), tuple(self.links)


def take_house(draft, words):
    """Takes in `house NAME MOST WAY ..`; told is whether it can stand here, so written."""
    read = words_read(("name", "number") + ("way",) * max(1, len(words) - 2), words)
    if read is None or draft.links:
        return False
    name, most, *ways = read
    draft.houses.append(HouseDraft(name, most, tuple(ways)))
    return True


def take_one(draft, words):
    """Takes in `one NAME`; told is whether it can stand here, so written."""
    read = words_read(("name",), words)
    house = draft.last_house()
    if read is None or house is None or house.lists:
        return False
    house.people.append(read[0])
    return True


def take_list(draft, words):
    """Takes in `list NAME ADDRESS ..`; told is whether it can stand here, so written."""
    read = words_read(("name",) + ("address",) * max(1, len(words) - 1), words)
    house = draft.last_house()
    if read is None or house is None:
        return False
    house.lists.append((read[0], read[1:]))
    return True


def take_link(draft, words):
    """Takes in `link NAME NAME DELAY`; told is whether it can stand here, so written."""
    read = words_read(("name", "name", "number"), words)
    if read is None or not draft.houses:
        return False
    draft.links.append(read)
    return True


TAKERS = {"house": take_house, "one": take_one, "list": take_list, "link": take_link}


def take_row(draft, row):
    """Takes in a row; told is whether it can stand here, so written."""
    word, *words = row.split(" ")
    if word not in TAKERS:
        return False
    taker = TAKERS[word]
    return taker(draft, words)


def read_rows(rows):
    """What the rows of a plan's text say, a plan or not; refused at the first row that can't stand so."""
    draft = Draft()
    for line, row in enumerate(rows):
        if not take_row(draft, row):
            raise BadLine(line)
    return draft.whole()


def plan_in(text):
    """The plan of a text."""
    rows = text.split("\n")
    plan = read_rows(rows)
    if not is_plan(plan):
        raise BadLine(len(rows))
    return plan
