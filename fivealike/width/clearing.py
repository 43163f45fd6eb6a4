"""Which lots that hang together can be cleared by bags of a width of at most k, looked at from above."""
from itertools import combinations

from fivealike.web.bits import bits_of, how_many, points_of
from fivealike.width.flaps import around, holding, pieces_in


class Clearing:
    """The lots of a web that were looked at, each with the point that is taken first, None if it is not cleared."""

    def __init__(self, tied, k):
        self.tied = tied
        self.k = k
        self.steps = {}

    def step_of(self, bits):
        """The point of a lot that is taken first, None if the lot is not cleared."""
        if bits not in self.steps:
            self.steps[bits] = self.found_step(bits)
        return self.steps[bits]

    def found_step(self, bits):
        """The same, of a lot that was not looked at."""
        rim = how_many(around(self.tied, bits))
        if how_many(bits) + rim <= self.k + 1:
            # One bag has room for all of these points.
            return bits.bit_length() - 1
        if rim <= self.k:
            for point in points_of(bits):
                if self.are_cleared(self.left_by(bits, point)):
                    return point
        return None

    def left_by(self, bits, point):
        """The pieces that the point leaves of a lot."""
        return pieces_in(self.tied, bits & ~(1 << point))

    def are_cleared(self, lots):
        """Whether all of these lots are cleared."""
        for bits in lots:
            if self.step_of(bits) is None:
                return False
        return True

    def largest_left(self, bits):
        """The largest piece that is not cleared and is left when these points, k + 1 of them, are out."""
        pieces = pieces_in(self.tied, (1 << len(self.tied)) - 1 & ~bits)
        return max([(how_many(piece), piece) for piece in pieces if self.step_of(piece) is None])[1]

    def largest_lots(self, many):
        """The largest pieces that any so many points, k + 1, leave uncleared, where some piece of the web is so."""
        points = list(range(len(self.tied)))
        found = {}
        for some in combinations(points, many):
            found[self.largest_left(bits_of(some))] = True
        return sorted(found)


def are_touching(tied, lots, held):
    """Whether these lots touch two by two, told which lots have one of them within."""
    whole = (1 << len(tied)) - 1
    return not any([held >> (whole & ~lot & ~around(tied, lot)) & 1 for lot in lots])


def do_touch(tied, lots):
    """Whether these lots touch two by two."""
    return are_touching(tied, lots, holding(len(tied), lots))
