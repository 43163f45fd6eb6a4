"""Webs as the checker sees them: pairs of colours and ties."""
from fivealike.judge.plain import are_between, is_ascending, is_tuple_of

MOST_POINTS = 40
LEAST_COLOUR = -1
GREATEST_COLOUR = 9


def is_tie(value, many):
    """Whether the value is a pair of two of so many points, the lesser one first."""
    return is_tuple_of(value, 2) and are_between(value, 0, many - 1) and value[0] < value[1]


def is_web(value):
    """Whether the value is the pair of the colours and the ties of a web."""
    if not is_tuple_of(value, 2):
        return False
    colours, ties = value
    if not are_between(colours, LEAST_COLOUR, GREATEST_COLOUR) or len(colours) > MOST_POINTS:
        return False
    if not isinstance(ties, tuple) or not all([is_tie(tie, len(colours)) for tie in ties]):
        return False
    return is_ascending(ties)


class Graph:
    """A web, told by its colours and ties. It does not change."""

    def __init__(self, colours, ties):
        self.colours = colours
        self.ties = ties
        self.many = len(colours)
        # For each point the bits of the points that are tied to it.
        self.near = [0] * self.many
        for here, there in ties:
            self.near[here] = self.near[here] | 1 << there
            self.near[there] = self.near[there] | 1 << here
        # For each colour the bits of its points.
        self.coloured = {}
        for point, colour in enumerate(colours):
            self.coloured[colour] = self.coloured.get(colour, 0) | 1 << point

    def is_tied(self, here, there):
        """Whether two points are tied."""
        return self.near[here] >> there & 1 == 1


def graph_of(web):
    """The graph of the pair of colours and ties."""
    return Graph(web[0], web[1])


def points_of(bits):
    """The ascending list of the points whose bits are set."""
    points = []
    left = bits
    while left:
        points.append((left & -left).bit_length() - 1)
        left = left & (left - 1)
    return points


def bits_of(points):
    """The bits of these points, each of which comes once."""
    return sum([1 << point for point in points])


def images_like(one, row, point, other, goal):
    """The bits of the points that are to those of the goal, as long as the row, what the point is to those of the row.

    They have its colour, too.
    """
    found = other.coloured.get(one.colours[point], 0)
    near = one.near[point]
    for here, there in zip(row, goal):
        if here == point:
            found = found & 1 << there
        else:
            found = found & (other.near[there] if near >> here & 1 else ~other.near[there]) & ~(1 << there)
    return found


def are_rows_like(one, row, other, goal):
    """Whether both rows are as long, and have equal colours, equal places and ties, place by place."""
    if len(row) != len(goal):
        return False
    return all([images_like(one, row[:place], row[place], other, goal[:place]) >> goal[place] & 1
                for place in range(len(row))])
