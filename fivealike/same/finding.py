"""Names for the points of webs, refined by how often those near a point have each name; maps found by such names.

A name is a place for bits, a multiple of STEP. The key of a point tells at the place of each name how many
points near it have this name, and 16 more if it has the name itself: enough for webs of at most 16 points.
"""
from fivealike.web.bits import bits_of

STEP = 5
SELF_BIT = 4
# The names of points that are all told apart.
PLACES = (0, 5, 10, 15, 20, 25, 30, 35, 40, 45, 50, 55, 60, 65, 70, 75)
MANY_COLOURS = 11


class Side:
    """A web whose points are told apart by names. It does not change."""

    def __init__(self, web):
        self.many = len(web)
        self.colours = web.colours
        self.ties = web.ties
        # The name for a point that is told apart from all others.
        self.fresh = STEP * self.many
        width = self.fresh + STEP
        self.mask = (1 << width) - 1
        self.starts = [width * point for point in range(self.many)]
        # What each point adds, at the place of its name, to the keys of all points, which stand one behind the other.
        self.shares = [1 << start + SELF_BIT for start in self.starts]
        # For each point the bits of those near it.
        self.near = [0] * self.many
        for here, there in web.ties:
            self.shares[here] += 1 << self.starts[there]
            self.shares[there] += 1 << self.starts[here]
            self.near[here] += 1 << there
            self.near[there] += 1 << here

    def keys_of(self, names):
        """The list of the keys of all points."""
        whole = sum([share << name for share, name in zip(self.shares, names)])
        mask = self.mask
        return [whole >> start & mask for start in self.starts]

    def with_fresh(self, names, point):
        """The names with a fresh one for the point."""
        found = list(names)
        found[point] = self.fresh
        return found


def names_by(told):
    """A dict from numbers, told in their sequence, to names that have this sequence."""
    return dict(zip(told, PLACES))


def refined(side, names):
    """The pair of the rounds in which the names are refined as far as can be, and of the names then.

    A round is the pair of the sorted keys of all points and of a dict from them to their names.
    """
    rounds = []
    many = len(set(names))
    while True:
        keys = side.keys_of(names)
        told = sorted(keys)
        index = names_by(told)
        rounds.append((told, index))
        names = [index[key] for key in keys]
        if len(index) == many:
            return (rounds, names)
        many = len(index)


def refined_behind(side, names, point):
    """The same for names of which the point has a fresh one."""
    return refined(side, side.with_fresh(names, point))


def followed(side, names, rounds):
    """The names refined by rounds of another web; None if there are other keys here."""
    for told, index in rounds:
        keys = side.keys_of(names)
        if sorted(keys) != told:
            return None
        names = [index[key] for key in keys]
    return names


def trace_of(rounds):
    """What is seen in the rounds: no names of points."""
    return [told for told, _ in rounds]


def lots_of(names):
    """A dict from the names to the ascending lists of the points that have them."""
    found = {}
    for point, name in enumerate(names):
        found.setdefault(name, []).append(point)
    return found


def lot_to_part(side, names):
    """The fewest points of one name among which a choice matters, in refined names; None if there are none."""
    if len(set(names)) == side.many:
        return None
    sized = sorted([(len(lot), name, lot) for name, lot in lots_of(names).items() if len(lot) > 1])
    lots = [bits_of(lot) for _, _, lot in sized]
    for _, _, lot in sized:
        # If no choice matters, of each name all other points are tied to these, or none.
        near, others = side.near[lot[0]], ~(1 << lot[0])
        if not all([near & bits in (0, bits & others) for bits in lots]):
            return lot
    return None


def map_by_names(names, others):
    """The map that leads the points of each name, ascending, to those of this name."""
    index = {name: image for image, name in enumerate(others)}
    if len(index) == len(others):
        return tuple([index[name] for name in names])
    lots = lots_of(others)
    taken = {name: 0 for name in lots}
    images = []
    for name in names:
        images.append(lots[name][taken[name]])
        taken[name] += 1
    return tuple(images)


def sorted_traces(side, names, lot):
    """The sorted list of what is seen when points of the lot, one alone each time, are told apart."""
    return sorted([trace_of(refined_behind(side, names, point)[0]) for point in lot])


class Guide:
    """How the points of a web are told apart, one chosen behind the other, told refined names.

    It is gone along in other webs: on each level there are the names, the lot whose first point
    is chosen, None at the end, and the rounds behind this choice.
    """

    def __init__(self, side, names):
        self.side = side
        self.names = [names]
        self.lots = [lot_to_part(side, names)]
        self.rounds = []
        self.traces = {}

    def rounds_at(self, level):
        """The rounds behind the choice of this level, which is not the end."""
        if level == len(self.rounds):
            rounds, names = refined_behind(self.side, self.names[level], self.lots[level][0])
            self.rounds.append(rounds)
            self.names.append(names)
            self.lots.append(lot_to_part(self.side, names))
        return self.rounds[level]

    def traces_at(self, level):
        """The sorted traces of the lot of this level."""
        if level not in self.traces:
            self.traces[level] = sorted_traces(self.side, self.names[level], self.lots[level])
        return self.traces[level]

    def images_at(self, level, others):
        """The points of a web with these names to which the choice of this level can be led."""
        return lots_of(others)[self.names[level][self.lots[level][0]]]


def map_along(guide, level, side, others):
    """A map from the guide's web, from this level on, that leads each name to itself; None if there is none."""
    if guide.lots[level] is None:
        return map_by_names(guide.names[level], others)
    rounds = guide.rounds_at(level)
    images = guide.images_at(level, others)
    failed = 0
    for image in images:
        names = followed(side, side.with_fresh(others, image), rounds)
        if names is None:
            continue
        # Once a choice was wrong it is worth the time to look at all points.
        if failed == 1 and sorted_traces(side, others, images) != guide.traces_at(level):
            return None
        found = map_along(guide, level + 1, side, names)
        if found is not None:
            return found
        failed += 1
    return None


def straight_map(guide, side, others):
    """Such a map if the first choice is right on each level, else None."""
    level = 0
    while others is not None and guide.lots[level] is not None:
        rounds = guide.rounds_at(level)
        image = guide.images_at(level, others)[0]
        others = followed(side, side.with_fresh(others, image), rounds)
        level += 1
    return None if others is None else map_by_names(guide.names[level], others)


def first_names(web, row):
    """Numbers that tell the colours of the points, and their places in the row."""
    found = [colour + 1 for colour in web.colours]
    for place, point in enumerate(row):
        found[point] += MANY_COLOURS * (place + 1)
    return found


def found_map(one, row, other, goal):
    """A map that shows that both webs are the same and leads the row to the goal; None if there is none."""
    numbers, goals = first_names(one, row), first_names(other, goal)
    told = sorted(numbers)
    if told != sorted(goals) or len(one.ties) != len(other.ties):
        return None
    side, far = Side(one), Side(other)
    index = names_by(told)
    rounds, names = refined(side, [index[number] for number in numbers])
    others = followed(far, [index[number] for number in goals], rounds)
    return None if others is None else map_along(Guide(side, names), 0, far, others)
