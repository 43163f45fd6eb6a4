"""What the rounds tell of rows of at most k + 1 points: their kinds, and what stands behind them.

A spot is a row of points in one of some webs: the pair of the web's index and the row.
"""
from fivealike.colour.fields import index_of, without_place


def cut_at(spot, place):
    """The spot with this place left out."""
    return (spot[0], without_place(spot[1], place))


class Kinds:
    """The names of the rows of some webs at some rounds, and the kinds of rows of k + 1 points."""

    def __init__(self, fields, rounds):
        self.fields = fields
        self.rounds = rounds
        self.k = fields[0].k

    def name_at(self, depth, spot):
        """The name of a row of at most k points at the round."""
        return self.rounds[depth][spot[0]][index_of(self.fields[spot[0]].many, spot[1])]

    def kind_at(self, depth, spot):
        """The name of the row at the round; for k + 1 points what tells its atom, and the names of the cuts."""
        which, row = spot
        if len(row) <= self.k:
            return self.name_at(depth, spot)
        # Just of rows of two points the cuts do not tell the atom.
        bits = self.fields[which].digits[row[0]][row[1]] if self.k == 1 else 0
        return (bits, *[self.name_at(depth, cut_at(spot, place)) for place in range(len(row))])

    def first_unlike(self, spot, other, depth):
        """The first round up to the depth at which rows of at most k points, not alike there, have unlike names."""
        at = 0
        while at < depth and self.name_at(at, spot) == self.name_at(at, other):
            at += 1
        return at

    def kinds_behind(self, depth, spot, place):
        """A dict from the kinds of the rows with a point put in at the place to lists of these."""
        which, row = spot
        found = {}
        for point in range(self.fields[which].many):
            longer = (which, row[:place] + (point,) + row[place:])
            found.setdefault(self.kind_at(depth, longer), []).append(longer)
        return found
