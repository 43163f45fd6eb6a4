"""What is seen of two webs from two like rows, and which point tells them apart soonest.

A look is told by a number: behind that of the colour a digit of base 4 for each place of the row.
"""
from fivealike.same.finding import (STEP, Guide, lots_of, map_by_names, names_by, refined_behind, straight_map,
                                    trace_of)

TIED = 1
ITSELF = 2
# What a pair of points is thought to cost: if it ends at once, later, or perhaps never.
COST_SOON = 1
COST_LATE = 20
COST_NEVER = 2000


def looks_behind(side, looks, point):
    """The looks of all points of a web with this point behind the row."""
    near = side.near[point]
    found = [look << 2 | near >> there & TIED for there, look in enumerate(looks)]
    found[point] += ITSELF
    return found


def looks_from(side, row):
    """The looks of all points of a web from a row."""
    looks = [colour + 1 for colour in side.colours]
    for point in row:
        looks = looks_behind(side, looks, point)
    return looks


def look_told(look, many):
    """The look with this number from a row of so many points, of a point that the row lacks."""
    tied = [place for place in range(many) if look >> 2 * (many - 1 - place) & 3 == TIED]
    return ((look >> 2 * many) - 1, (), tuple(tied))


class Fork:
    """Two like rows from which each look comes equally often, told these looks."""

    def __init__(self, sides, looks, others):
        self.sides = sides
        self.looks = (looks, others)
        self.told = sorted(looks)
        index = names_by(self.told)
        self.names = [[index[look] for look in own] for own in self.looks]
        # The keys of both webs behind the looks, and the last ones that were looked at.
        self.first = self.keys_next()
        self.last = self.first
        # A map that leads each name to itself, if it was met.
        self.images = None
        self.is_alike = self.refine(len(index))

    def keys_next(self):
        """The keys of the points of both webs by their names."""
        return [side.keys_of(names) for side, names in zip(self.sides, self.names)]

    def refine(self, many):
        """Refines the names, so many now, until some key comes unequally often; whether none does so."""
        while True:
            told = sorted(self.last[0])
            if told != sorted(self.last[1]):
                return False
            index = names_by(told)
            self.names = [[index[key] for key in own] for own in self.last]
            if len(index) == many:
                return True
            if len(index) == len(told):
                self.images = self.only_map()
                if self.images is not None:
                    return True
            many = len(index)
            self.last = self.keys_next()

    def only_map(self):
        """The map that leads the names, each of which just one point has, to themselves; None if ties are led wrong."""
        one, other = self.sides
        images = map_by_names(self.names[0], self.names[1])
        tied = [other.near[images[here]] >> images[there] & TIED for here, there in one.ties]
        return images if 0 not in tied and len(tied) == len(other.ties) else None

    def map_soon(self):
        """A map that shows that both webs are the same and leads the rows; None if none is found soon."""
        if self.is_alike and self.images is None:
            self.images = straight_map(Guide(self.sides[0], self.names[0]), self.sides[1], self.names[1])
        return self.images

    def images_of(self, point):
        """The list of the points that have the look of this one."""
        look = self.looks[0][point]
        return [image for image, other in enumerate(self.looks[1]) if other == look]

    def endings_for(self, point, many):
        """The images with which some look comes unequally often: pairs of this look and of a list of these.

        It is told how many points the rows have.
        """
        own = self.first[0][point]
        lots = {}
        for image in self.images_of(point):
            key = self.first[1][image]
            if key != own:
                lots.setdefault(key, []).append(image)
        return [(self.look_apart(own ^ key, many), lot) for key, lot in lots.items()]

    def look_apart(self, unlike, many):
        """The look that comes unequally often behind points whose keys are unlike in these bits."""
        name = ((unlike & -unlike).bit_length() - 1) // STEP
        return look_told(self.told[name] << 2 | TIED, many + 1)

    def lots_for(self, point):
        """The lists of all other images, those of one last key each, those of the point's own one first."""
        key = self.first[0][point]
        lots = {self.last[0][point]: []}
        for image in self.images_of(point):
            if self.first[1][image] == key:
                lots.setdefault(self.last[1][image], []).append(image)
        return list(lots.values())

    def best_point(self, row, is_careful):
        """The point of the first web, none of the row, for which few tries are needed, as far as this can be seen."""
        ending = [(self.looks[1].count(look), point)
                  for point, (look, key) in enumerate(zip(self.looks[0], self.first[0])) if key not in self.first[1]]
        if ending != []:
            return min(ending)[1]
        lots = [lot for lot in list(lots_of(self.last[0]).values()) if lot[0] not in row]
        costs = sorted([(self.cost_of(lot[0]), lot) for lot in lots])
        if not self.is_alike:
            return costs[0][1][0]
        best = None
        for cost, lot in costs:
            if best is None or cost < best[0]:
                often, point = self.least_alike(lot, is_careful)
                whole = (cost + (COST_NEVER - COST_LATE) * often, point)
                best = whole if best is None else min(best, whole)
        return best[1]

    def cost_of(self, point):
        """What the point is thought to cost if all of its images lead to an end."""
        images = self.looks[1].count(self.looks[0][point])
        late = self.first[1].count(self.first[0][point])
        return COST_SOON * (images - late) + COST_LATE * late

    def least_alike(self, lot, is_careful):
        """How many images of a point of this lot, of one last key, perhaps never lead to an end, and this point.

        It is the point with the fewest ones; without care it is one that is looked at with just one image.
        """
        key = self.last[0][lot[0]]
        if len(lot) == 1:
            return (1, lot[0])
        if not is_careful:
            is_never = self.trace_at(0, lot[0]) == self.trace_at(1, self.last[1].index(key))
            return (len(lot) if is_never else 0, lot[0])
        traces = [self.trace_at(1, image) for image, other in enumerate(self.last[1]) if other == key]
        return min([(traces.count(self.trace_at(0, point)), point) for point in lot])

    def trace_at(self, which, point):
        """What is seen when this point of one of the webs is told apart."""
        return trace_of(refined_behind(self.sides[which], self.names[which], point)[0])
