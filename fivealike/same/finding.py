"""The search for a map that shows that two webs are the same, by refined names of their points."""
from fivealike.same.refining import Side, followed, lot_to_part, lots_of, refined, refined_behind, trace_of

MANY_COLOURS = 11


def map_by_names(names, others):
    """The map that leads the points of each name, ascending, to those of this name."""
    index = {name: image for image, name in enumerate(others)}
    if len(index) == len(others):
        return tuple([index[name] for name in names])
    lots = lots_of(others)
    taken = {name: 0 for name in lots}
    images = []
    for name in names:
        images.append(lots[name][taken[name]])
        taken[name] += 1
    return tuple(images)


def sorted_traces(side, names, lot):
    """The sorted list of what is seen when points of the lot, one alone each time, are told apart."""
    return sorted([trace_of(refined_behind(side, names, point)[0]) for point in lot])


class Guide:
    """How the points of a web are told apart, one chosen behind the other, told refined names.

    It is gone along in other webs: on each level there are the names, the lot whose first point
    is chosen, None at the end, and the rounds behind this choice.
    """

    def __init__(self, side, names):
        self.side = side
        self.names = [names]
        self.lots = [lot_to_part(side, names)]
        self.rounds = []
        self.traces = {}

    def rounds_at(self, level):
        """The rounds behind the choice of this level, which is not the end."""
        if level == len(self.rounds):
            rounds, names = refined_behind(self.side, self.names[level], self.lots[level][0])
            self.rounds.append(rounds)
            self.names.append(names)
            self.lots.append(lot_to_part(self.side, names))
        return self.rounds[level]

    def traces_at(self, level):
        """The sorted traces of the lot of this level."""
        if level not in self.traces:
            self.traces[level] = sorted_traces(self.side, self.names[level], self.lots[level])
        return self.traces[level]

    def images_at(self, level, others):
        """The points of a web with these names to which the choice of this level can be led."""
        return lots_of(others)[self.names[level][self.lots[level][0]]]


def map_along(guide, level, side, others):
    """A map from the guide's web, from this level on, that leads each name to itself; None if there is none."""
    if guide.lots[level] is None:
        return map_by_names(guide.names[level], others)
    rounds = guide.rounds_at(level)
    images = guide.images_at(level, others)
    failed = 0
    for image in images:
        names = followed(side, side.with_fresh(others, image), rounds)
        if names is None:
            continue
        # Once a choice was wrong it is worth the time to look at all points.
        if failed == 1 and sorted_traces(side, others, images) != guide.traces_at(level):
            return None
        found = map_along(guide, level + 1, side, names)
        if found is not None:
            return found
        failed += 1
    return None


def straight_map(guide, side, others):
    """Such a map if the first choice is right on each level, else None."""
    level = 0
    while others is not None and guide.lots[level] is not None:
        rounds = guide.rounds_at(level)
        image = guide.images_at(level, others)[0]
        others = followed(side, side.with_fresh(others, image), rounds)
        level += 1
    return None if others is None else map_by_names(guide.names[level], others)


def first_names(web, row):
    """Numbers that tell the colours of the points, and their places in the row."""
    found = [colour + 1 for colour in web.colours]
    for place, point in enumerate(row):
        found[point] += MANY_COLOURS * (place + 1)
    return found


def found_map(one, row, other, goal):
    """A map that shows that both webs are the same and leads the row to the goal; None if there is none."""
    numbers, goals = first_names(one, row), first_names(other, goal)
    told = sorted(numbers)
    if told != sorted(goals) or len(one.ties) != len(other.ties):
        return None
    side, far = Side(one), Side(other)
    index = side.names_by(told)
    rounds, names = refined(side, [index[number] for number in numbers])
    others = followed(far, [index[number] for number in goals], rounds)
    return None if others is None else map_along(Guide(side, names), 0, far, others)
