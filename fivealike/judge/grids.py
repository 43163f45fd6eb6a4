"""Lists with a number for each row of k + 1 points, a point for each place, in their sequence.

Without points there is no row: then one number stands for what hangs on no place.
"""
from fivealike.judge.plain import power_of


class Grid:
    """The rows of k + 1 points of a graph."""

    def __init__(self, graph, k):
        self.graph = graph
        self.many = graph.many
        # For each place how far apart rows are in which its point is the next one.
        self.steps = [power_of(self.many, k - place) for place in range(k + 1)]
        self.whole = self.steps[0] * self.many
        self.points = [[at // step % self.many for at in range(self.whole)] for step in self.steps]

    def constant(self, number):
        """The same number for all rows."""
        return [number] * max(self.whole, 1)

    def some_point(self):
        """1 for all rows, 0 where there is no row."""
        return [1] * self.whole if self.whole else [0]

    def tied(self, here, there):
        """1 for the rows with tied points at two places."""
        if self.whole == 0:
            return [0]
        near = self.graph.near
        return [near[one] >> other & 1 for one, other in zip(self.points[here], self.points[there])]

    def same(self, here, there):
        """1 for the rows with one point at two places."""
        if self.whole == 0:
            return [0]
        return [1 if one == other else 0 for one, other in zip(self.points[here], self.points[there])]

    def coloured(self, place, colour):
        """1 for the rows with a point of the colour at a place."""
        if self.whole == 0:
            return [0]
        fit = [1 if own == colour else 0 for own in self.graph.colours]
        return [fit[point] for point in self.points[place]]

    def summed(self, place, numbers):
        """For each row the sum of the numbers of all rows that are the same but for this place."""
        if self.whole == 0:
            return [0]
        step = self.steps[place]
        size = step * self.many
        found = []
        for begun in range(0, self.whole, size):
            ended = begun + size
            sums = [sum(numbers[at:ended:step]) for at in range(begun, begun + step)]
            found.extend(sums * self.many)
        return found
