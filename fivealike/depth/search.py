"""The search for a forest of the least depth."""
from fivealike.web.bits import near_bits, points_of
from fivealike.width.flaps import around, pieces_in


class Search:
    """The least depths of what hangs together in a pattern, below all points around it."""

    def __init__(self, pattern, k):
        self.tied = near_bits(pattern)
        self.k = k
        self.whole = pieces_in(self.tied, (1 << len(pattern)) - 1)
        # For each lot that was looked at the pair of its least depth and of the point on top, or None.
        self.known = {}

    def best(self, bits):
        """The least depth of a lot and the point on top, None if there is no forest."""
        if bits not in self.known:
            found = []
            # The points around keep their labels, as they are tied to some point of the lot.
            if len(points_of(around(self.tied, bits))) <= self.k:
                for point in points_of(bits):
                    depth = self.depth_of(pieces_in(self.tied, bits & ~(1 << point)))
                    if depth is not None:
                        found.append((depth + 1, point))
            self.known[bits] = min(found) if found != [] else None
        return self.known[bits]

    def depth_of(self, lots):
        """The least depth of these lots beside one another, None if one has no forest."""
        bests = [self.best(bits) for bits in lots]
        return None if None in bests else max([depth for depth, _ in bests], default=0)

    def least(self):
        """The least depth of the pattern, None if there is no forest."""
        return self.depth_of(self.whole)

    def forest(self):
        """A forest of the least depth; there is one."""
        above = [None] * len(self.tied)
        labels = [0] * len(self.tied)
        waiting = [(bits, None) for bits in self.whole]
        while waiting != []:
            bits, upper = waiting.pop()
            point = self.best(bits)[1]
            taken = [labels[there] for there in points_of(around(self.tied, bits))]
            above[point] = upper
            labels[point] = [label for label in range(self.k + 1) if label not in taken][0]
            waiting.extend([(piece, point) for piece in pieces_in(self.tied, bits & ~(1 << point))])
        return (tuple(above), tuple(labels))
