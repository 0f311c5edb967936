"""A plan made ready for being asked: who lives where, and which house is next."""

from letterhall.routes import delays_of, house_names, lists_of, next_house, people_of


class Chart:
    """What a plan says, by its NAMEs and addresses; the same for ever, so twins share it."""

    def __init__(self, plan):
        self.plan = plan
        self.house_list = house_names(plan)
        self.ways_of = {house[0]: house[3] for house in plan[0]}
        self.most_of = {house[0]: house[4] for house in plan[0]}
        self.people = people_of(plan)
        self.lists = lists_of(plan)
        self.delays = delays_of(plan)
        self.routes = {}

    def toward(self, house, goal):
        """What next_house tells, looked for once."""
        if (house, goal) not in self.routes:
            self.routes[house, goal] = next_house(self.plan, house, goal)
        return self.routes[house, goal]
