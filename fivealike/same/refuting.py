"""The search for tries, which show that no map of two webs leads one row to another."""
from fivealike.errors import TooMany
from fivealike.same.refining import indices_of, keys_of, trace_of
from fivealike.web.bits import near_bits

MOST_TRIES = 4000
# What a pair of points is thought to cost: if it ends at once, later, or perhaps never.
COST_SOON = 1
COST_LATE = 20
COST_NEVER = 2000
IN_ROW = -1


def look_at(web, row, point):
    """The look of the point from the row."""
    at = [place for place, here in enumerate(row) if here == point]
    near = web.near(point)
    return (web.colours[point], tuple(at), tuple([place for place, here in enumerate(row) if here in near]))


class Refuter:
    """Tries that are being made. Looks are told by numbers: for a colour, and for the places with tied points."""

    def __init__(self, one, other):
        self.webs = (one, other)
        self.bits = (near_bits(one), near_bits(other))
        self.near = [[web.near(point) for point in range(len(web))] for web in self.webs]
        self.tries = {}

    def looks_from(self, which, row):
        """The numbers of the looks of all points of a web from a row."""
        looks = [colour + 1 for colour in self.webs[which].colours]
        for point in row:
            looks = self.looks_behind(which, looks, point)
        return looks

    def looks_behind(self, which, looks, point):
        """The numbers of the looks when the row has this point behind it, too."""
        near = self.bits[which][point]
        found = [2 * look + (near >> here & 1) if look != IN_ROW else IN_ROW for here, look in enumerate(looks)]
        found[point] = IN_ROW
        return found

    def refute(self, rows, looks, others):
        """Makes tries of two like rows, which no map leads to one another, told the looks from both."""
        if len(self.tries) == MOST_TRIES:
            raise TooMany(MOST_TRIES)
        unlike = [look for look in looks + others if looks.count(look) != others.count(look)]
        if unlike != []:
            self.tries[rows] = ("many", self.look_told(rows, looks, others, unlike[0]))
            return
        point = self.best_point(rows, looks, others)
        self.tries[rows] = ("point", point)
        behind = self.looks_behind(0, looks, point)
        for image in range(len(others)):
            if others[image] == looks[point]:
                longer = (rows[0] + (point,), rows[1] + (image,))
                self.refute(longer, behind, self.looks_behind(1, others, image))

    def look_told(self, rows, looks, others, number):
        """The look with this number."""
        if number in looks:
            return look_at(self.webs[0], rows[0], looks.index(number))
        return look_at(self.webs[1], rows[1], others.index(number))

    def best_point(self, rows, looks, others):
        """The point of the first web for which few tries are needed, as far as this can be seen ahead."""
        images = {point: [image for image, other in enumerate(others) if other == look]
                  for point, look in enumerate(looks) if look != IN_ROW}
        rounds = [names_apart(rows, looks, others)]
        rounds.append(self.next_names(rounds[-1]))
        names, goals = rounds[-1]
        sure = [(len(images[point]), point) for point in images
                if not any([goals[image] == names[point] for image in images[point]])]
        if sure != []:
            return min(sure)[1]
        while are_alike_and_finer(rounds):
            rounds.append(self.next_names(rounds[-1]))
        traces = [{}, {}]
        costs = [(sum([self.cost_of(rounds, traces, point, image) for image in images[point]]), point)
                 for point in images]
        return min(costs)[1]

    def next_names(self, names):
        """The pair of the names of all points of both webs, refined by one round."""
        keys = [keys_of(near, own) for near, own in zip(self.near, names)]
        index = indices_of(keys[0] + keys[1])
        return ([index[key] for key in keys[0]], [index[key] for key in keys[1]])

    def cost_of(self, rounds, traces, point, image):
        """What the pair of a point and an image is thought to cost."""
        if rounds[1][0][point] != rounds[1][1][image]:
            return COST_SOON
        names = rounds[-1]
        if names[0][point] != names[1][image]:
            return COST_LATE
        for which, here in ((0, point), (1, image)):
            if here not in traces[which]:
                traces[which][here] = trace_of(self.near[which], names[which], here)
        return COST_NEVER if traces[0][point] == traces[1][image] else COST_LATE


def names_apart(rows, looks, others):
    """The pair of names for all points of both webs, by their looks and the places of the rows."""
    keys = []
    for own, row in zip((looks, others), rows):
        told = list(own)
        for place, point in enumerate(row):
            told[point] = IN_ROW - place
        keys.append(told)
    index = indices_of(keys[0] + keys[1])
    return ([index[key] for key in keys[0]], [index[key] for key in keys[1]])


def are_alike_and_finer(rounds):
    """Whether the last names come equally often in both webs, and are more than those ahead."""
    names, goals = rounds[-1]
    return sorted(names) == sorted(goals) and len(set(names)) > len(set(rounds[-2][0]))


def tries_for(one, row, other, goal):
    """Tries of two like rows, which no map of the same webs leads to one another."""
    refuter = Refuter(one, other)
    refuter.refute((row, goal), refuter.looks_from(0, row), refuter.looks_from(1, goal))
    return {rows: refuter.tries[rows] for rows in sorted(refuter.tries)}
