"""The search for a recipe that has a number above 0 on a pattern, and 0 on a web.

A spot is a pair of places and of a row of unlike points of the pattern for them. Rows of the web for
its places are told by bits, as in the truth of sentences, with the point 0 for all other places: the
parts that lead the spot to these rows. What is wanted of lines is that their tables are above 0 at the
spot, and 0 at such rows.
"""
from fivealike.side.lines import Lines
from fivealike.web.bits import how_many


def with_place(spot, place, point):
    """The spot with a place more, and a point for it."""
    pairs = sorted(list(zip(spot[0], spot[1])) + [(place, point)])
    return (tuple([here for here, _ in pairs]), tuple([there for _, there in pairs]))


def without(spot, at):
    """The spot without the place with this index."""
    return (spot[0][:at] + spot[0][at + 1:], spot[1][:at] + spot[1][at + 1:])


class Plan:
    """Which points are to be asked for, at which spots, so that all ways to lead them on end."""

    def __init__(self, lines, layers):
        self.lines = lines
        self.k = lines.k
        self.grid = lines.grid
        self.layers = layers
        self.ranked = {}
        # For each rank the spots and the bits of the rows, of this rank, for which lines are wanted.
        self.wanted = {}
        # For each rank what is to be summed: the spot, the new place and its point, and the rows that end.
        self.steps = {}

    def ranks_at(self, spot):
        """A dict from ranks to the bits of the rows to which the spot is a part of this rank."""
        if spot not in self.ranked:
            found = {}
            places, points = spot
            for row in self.grid.rows_for(places):
                rank = self.layers.rank_of(tuple(sorted(list(zip(points, row)))))
                if rank is not None:
                    found[rank] = found.get(rank, 0) | 1 << self.grid.place_of(places, row)
            self.ranked[spot] = found
        return self.ranked[spot]

    def low_rows(self, spot, most):
        """The bits of the rows to which the spot is a part of at most this rank, or none."""
        found = 0
        for rank, bits in self.ranks_at(spot).items():
            if rank <= most:
                found = found | bits
        return found

    def want(self, spot, rows):
        """Notes that lines are wanted for these rows."""
        for rank, bits in self.ranks_at(spot).items():
            # What is no part is told by lines without sums.
            if rank > 0 and rows & bits:
                spots = self.wanted.setdefault(rank, {})
                spots[spot] = spots.get(spot, 0) | rows & bits

    def low_cuts(self, spot, most):
        """For each place of a spot of k + 1 points the bits of the rows whose cut there has at most this rank."""
        return [self.low_rows(without(spot, at), most) * self.grid.every[spot[0][at]] for at in range(self.k + 1)]

    def ending(self, spot, most):
        """The bits of the rows of which some part of at most k pairs has at most this rank, or is none."""
        if len(spot[0]) <= self.k:
            return self.low_rows(spot, most)
        found = self.grid.whole & ~self.lines.fitting(spot)
        for bits in self.low_cuts(spot, most):
            found = found | bits
        return found

    def best_step(self, spot, rank, rows):
        """The new place, the point asked for there, and the bits of the rows, as many as can be, that end so."""
        place = [here for here in range(self.k + 1) if here not in spot[0]][0]
        found = []
        for point in self.layers.points:
            if point not in spot[1]:
                longer = with_place(spot, place, point)
                # Rows that are left with some image are not ended.
                ending = rows & ~self.grid.shadow(place, self.rows_at(longer[0]) & ~self.ending(longer, rank - 1))
                found.append((how_many(ending), -point, ending))
        _, less, ending = max(found)
        return (place, -less, ending)

    def rows_at(self, places):
        """The bits of all rows for these places."""
        bits = self.grid.whole
        for place in range(self.k + 1):
            if place not in places:
                bits = bits & self.grid.first[place]
        return bits

    def want_behind(self, spot, most, rows):
        """Notes what is wanted so that none of these rows is left, by parts of at most this rank."""
        if len(spot[0]) <= self.k:
            self.want(spot, rows)
            return
        left = rows & self.lines.fitting(spot)
        cuts = self.low_cuts(spot, most)
        while left:
            _, less = max([(how_many(left & bits), -at) for at, bits in enumerate(cuts)])
            place = spot[0][-less]
            self.want(without(spot, -less), self.grid.shadow(place, left & cuts[-less]))
            left = left & ~cuts[-less]

    def make(self, most):
        """Makes the steps of all ranks up to that of the part without pairs."""
        self.want(((), ()), 1)
        for rank in reversed(range(1, most + 1)):
            self.steps[rank] = []
            # What is wanted from here on is of lesser ranks.
            spots = list(self.wanted.get(rank, {}).items())
            for spot, wanted in spots:
                left = wanted
                while left:
                    place, point, ending = self.best_step(spot, rank, left)
                    self.steps[rank].append((spot, place, point, ending))
                    self.want_behind(with_place(spot, place, point), rank - 1, ending * self.grid.every[place])
                    left = left & ~ending


def recipe_shown(one, other, k, layers):
    """A recipe of the depth of the rank of the part without pairs, above 0 on the pattern, 0 on the web."""
    lines = Lines(one, other, k)
    plan = Plan(lines, layers)
    most = layers.rank_of(())
    plan.make(most)
    for rank in range(1, most + 1):
        for spot, place, point, rows in plan.steps[rank]:
            left = lines.known_lines(rank, spot, rows)[1]
            if left:
                lines.write_sum(rank, with_place(spot, place, point), place, left * plan.grid.every[place])
    return lines.recipe_for(((), ()), most)
