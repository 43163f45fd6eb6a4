"""Rows of bags, and the line recipes that go along them."""
from fivealike.web.bits import how_many, near_bits, points_of
from fivealike.web.webs import is_lot
from fivealike.width.flaps import pieces_in
from fivealike.width.hanging import Writer
from fivealike.width.orders import Lumps


def are_row_bags_of(web, value):
    """Whether the value is a row of bags of this, which is a web."""
    if not isinstance(value, tuple) or not all([is_lot(web, bag) for bag in value]):
        return False
    begun = {}
    ended = {}
    for at, bag in enumerate(value):
        for point in bag:
            # A point stands in all bags from its first to its last one.
            if ended.get(point, at - 1) != at - 1:
                return False
            begun.setdefault(point, at)
            ended[point] = at
    if len(begun) != len(web):
        return False
    return all([begun[here] <= ended[there] and begun[there] <= ended[here] for here, there in web.ties])


def rim_with(near, rim, taken, point):
    """The bits of those among the points taken, the point being the last one, that are tied to others."""
    found = 0
    for here in points_of(rim | 1 << point):
        if near[here] & ~taken:
            found = found | 1 << here
    return found


def order_within(near, most):
    """An order of all points of which each beginning has so many points at most that are tied to others, or None."""
    whole = (1 << len(near)) - 1
    seen = {0: True}
    waiting = [(0, 0, ())]
    while waiting != []:
        taken, rim, order = waiting.pop()
        if taken == whole:
            return order
        waiting.extend(next_steps(near, most, seen, taken, rim, order))
    return None


def next_steps(near, most, seen, taken, rim, order):
    """What can be taken next: the bits of the points taken, of those of them tied to others, and their order."""
    steps = []
    for point in range(len(near)):
        more = taken | 1 << point
        if more != taken and more not in seen:
            wider = rim_with(near, rim, more, point)
            step = (more, wider, order + (point,))
            if how_many(wider) <= how_many(rim):
                # Nothing is lost by this step, so no other one is needed.
                seen[more] = True
                return [step]
            if how_many(wider) <= most:
                steps.append(step)
    for more, _, _ in steps:
        seen[more] = True
    return steps


def best_order(web):
    """The path width of a web with points, and an order of the points that shows it."""
    near = near_bits(web)
    # It is at least the width of bags that need not stand in a row.
    width = max([Lumps(near, piece).least for piece in pieces_in(near, (1 << len(web)) - 1)])
    order = order_within(near, width)
    while order is None:
        width += 1
        order = order_within(near, width)
    return (width, order)


def bags_by(near, order):
    """The row of the bags in which the points come in this order, each one kept as long as it is needed."""
    bags = []
    taken = 0
    rim = 0
    for point in order:
        bags.append(points_of(rim | 1 << point))
        taken = taken | 1 << point
        rim = rim_with(near, rim, taken, point)
    return tuple(bags)


class Line:
    """A line recipe that is being written, the last line being told by its index, None at the beginning."""

    def __init__(self):
        self.writer = Writer()
        self.last = None

    def glue(self, line):
        """Glues a line of the depth 0 to the last one."""
        at = self.writer.index_of(line)
        self.last = at if self.last is None else self.writer.index_of(("glue", self.last, at))

    def sum_out(self, place):
        """Sums over a place of the last line."""
        self.last = self.writer.index_of(("sum", place, self.last))

    def recipe(self):
        """The recipe that ends with the last line."""
        if self.last is None:
            self.glue(("one",))
        return tuple(self.writer.lines[:self.last + 1])


def line_along(pattern, bags, k):
    """A line recipe whose number is how many maps the pattern has, along a row of bags."""
    line = Line()
    places = {}
    done = {}
    for bag in bags:
        for point in [here for here in places if here not in bag]:
            line.sum_out(places[point])
            del places[point]
        for point in [here for here in bag if here not in places]:
            taken = list(places.values())
            places[point] = [place for place in range(k + 1) if place not in taken][0]
            colour = pattern.colours[point]
            line.glue(("point", places[point]) if colour == -1 else ("colour", places[point], colour))
        for tie in pattern.ties:
            if tie not in done and tie[0] in places and tie[1] in places:
                done[tie] = True
                here, there = places[tie[0]], places[tie[1]]
                line.glue(("tie", min(here, there), max(here, there)))
    for place in list(places.values()):
        line.sum_out(place)
    return line.recipe()
