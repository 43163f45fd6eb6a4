"""What is worked out along bags: recipes, and numbers of maps."""
from fivealike.web.maps import all_maps
from fivealike.web.webs import part


def bags_below(above):
    """A list with, for each bag, the list of the bags that it is above of."""
    below = [[] for _ in above]
    for at in range(len(above)):
        if above[at] is not None:
            below[above[at]].append(at)
    return below


def upper_first(above):
    """The list of all bags, each one behind the one above it."""
    below = bags_below(above)
    found = [above.index(None)]
    at = 0
    while at < len(found):
        found.extend(below[found[at]])
        at += 1
    return found


def places_in_bags(bags, above, k):
    """A list with, for each bag, a dict from its points to places, the same ones as above."""
    places = [{} for _ in bags]
    for at in upper_first(above):
        upper = places[above[at]] if above[at] is not None else {}
        kept = {point: upper[point] for point in bags[at] if point in upper}
        taken = list(kept.values())
        free = [place for place in range(k + 1) if place not in taken]
        fresh = [point for point in bags[at] if point not in kept]
        for point, place in zip(fresh, free):
            kept[point] = place
        places[at] = kept
    return places


class Writer:
    """A recipe that is being written; no line is written twice."""

    def __init__(self):
        self.lines = []
        self.known = {}

    def index_of(self, line):
        """The index of the line, which is written if it is not there."""
        if line not in self.known:
            self.known[line] = len(self.lines)
            self.lines.append(line)
        return self.known[line]

    def glue_all(self, indices):
        """The index of a line that glues all of these."""
        if indices == []:
            return self.index_of(("one",))
        glued = indices[0]
        for at in indices[1:]:
            glued = self.index_of(("glue", glued, at))
        return glued


def lines_in_bag(pattern, bag, places):
    """The lines for the points of a bag, and for the ties among them."""
    lines = []
    for point in bag:
        colour = pattern.colours[point]
        lines.append(("point", places[point]) if colour == -1 else ("colour", places[point], colour))
    for here, there in pattern.ties:
        if here in bag and there in bag:
            lines.append(("tie", min(places[here], places[there]), max(places[here], places[there])))
    return lines


def written(pattern, bags, above, k):
    """The lines of a recipe for k whose pattern is this one."""
    places = places_in_bags(bags, above, k)
    below = bags_below(above)
    writer = Writer()
    told = [0] * len(bags)
    for at in reversed(upper_first(above)):
        lines = [writer.index_of(line) for line in lines_in_bag(pattern, bags[at], places[at])]
        index = writer.glue_all(lines + [told[lower] for lower in below[at]])
        upper = bags[above[at]] if above[at] is not None else ()
        for point in bags[at]:
            if point not in upper:
                index = writer.index_of(("sum", places[at][point], index))
        told[at] = index
    return tuple(writer.lines)


def ways_from(bag, upper, rows):
    """For the images of the points that the bag above has, too, the sum of the ways for the others."""
    at_upper = [at for at in range(len(bag)) if bag[at] in upper]
    ways = {}
    for images, number in rows:
        key = tuple([images[at] for at in at_upper])
        ways[key] = ways.get(key, 0) + number
    return ways


def ways_for(bag, images, lower):
    """The product of the ways for all that hangs below, with these images of the bag's points."""
    leads = {point: image for point, image in zip(bag, images)}
    number = 1
    for points, ways in lower:
        number = number * ways.get(tuple([leads[point] for point in points]), 0)
    return number


def maps_along(pattern, bags, above, web):
    """How many maps lead the pattern into the web."""
    below = bags_below(above)
    told = [{} for _ in bags]
    for at in reversed(upper_first(above)):
        bag = bags[at]
        lower = [(tuple([point for point in bags[low] if point in bag]), told[low]) for low in below[at]]
        rows = [(images, ways_for(bag, images, lower)) for images in all_maps(part(pattern, bag), web)]
        told[at] = ways_from(bag, bags[above[at]] if above[at] is not None else (), rows)
    return told[above.index(None)].get((), 0)
