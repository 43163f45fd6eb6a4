"""Lines of recipes that are being written, with where their tables are above 0 on a pattern and on a web."""
from fivealike.errors import TooMany
from fivealike.say.truth import Grid
from fivealike.web.bits import how_many
from fivealike.width.lines import lines_alone, lines_within
from fivealike.width.recipes import MOST_LINES

# Lines can be written that are not needed in the end: so more are let for a while.
MOST_WRITTEN = 20000


def bits_of_line(grid, line, ahead):
    """The bits of the rows of all places at which the table of a line is above 0, told those of the lines ahead."""
    if line[0] == "glue":
        return ahead[line[1]] & ahead[line[2]]
    if line[0] == "sum":
        return grid.at_least(1, line[1], ahead[line[2]])
    if line[0] == "tie":
        return grid.where_tied(line[1], line[2])
    if line[0] == "same":
        return grid.where_same(line[1], line[2])
    if line[0] == "colour":
        return grid.where_coloured(line[1], line[2])
    # Without points there is no row for a place.
    return grid.whole if line[0] == "one" or grid.many > 0 else 0


class Lines:
    """The lines; a spot is a pair of places and of the points of the pattern for them."""

    def __init__(self, one, other, k):
        self.k = k
        self.one = one
        self.own = Grid(one, k)
        self.grid = Grid(other, k)
        self.lines = []
        self.index = {}
        self.places = []
        self.depths = []
        self.own_bits = []
        self.bits = []
        self.write_first()

    def write_first(self):
        """Writes the lines of which patterns without sums are made."""
        colours = sorted(set([colour for colour in self.one.colours if colour >= 0]))
        for high in range(self.k + 1):
            self.write(("point", high), (high,))
            for colour in colours:
                self.write(("colour", high, colour), (high,))
            for low in range(high):
                self.write(("tie", low, high), (low, high))

    def write(self, line, places):
        """The index of the line, which has these places, and is written if it is not there."""
        if line not in self.index:
            if len(self.lines) == MOST_WRITTEN:
                raise TooMany(MOST_LINES)
            self.index[line] = len(self.lines)
            within = [self.depths[at] for at in lines_within(line)]
            self.lines.append(line)
            self.places.append(places)
            self.depths.append(max(within, default=0) + (1 if line[0] == "sum" else 0))
            self.own_bits.append(bits_of_line(self.own, line, self.own_bits))
            self.bits.append(bits_of_line(self.grid, line, self.bits))
        return self.index[line]

    def glued(self, one, other):
        """The index of a line that glues both."""
        return self.write(("glue", one, other), tuple(sorted(set(self.places[one] + self.places[other]))))

    def fitting(self, spot):
        """The bits of the rows to which the spot is a part."""
        bits = self.grid.whole
        for at, (place, point) in enumerate(zip(spot[0], spot[1])):
            if self.one.colours[point] != -1:
                bits = bits & self.grid.where_coloured(place, self.one.colours[point])
            for here, there in zip(spot[0][:at], spot[1][:at]):
                if self.one.is_tied(there, point):
                    bits = bits & self.grid.where_tied(here, place)
        return bits

    def known_lines(self, depth, spot, rows):
        """Indices of lines of at most this depth, above 0 at the spot, and the bits of the rows at which all are."""
        here = 1 << self.own.place_of(spot[0], spot[1])
        fit = [at for at in range(len(self.lines)) if self.depths[at] <= depth and self.own_bits[at] & here]
        fit = [at for at in fit if all([place in spot[0] for place in self.places[at]])]
        left = rows
        chosen = []
        while left:
            most, less = max([(how_many(left & ~self.bits[at]), -at) for at in fit], default=(0, 0))
            if most == 0:
                return (chosen, left)
            chosen.append(-less)
            left = left & self.bits[-less]
        return (chosen, left)

    def write_sum(self, depth, spot, place, rows):
        """Writes the sum over the place of lines of a lesser depth that are 0 at these rows, but not at the spot."""
        chosen = self.known_lines(depth - 1, spot, rows)[0]
        if not any([place in self.places[at] for at in chosen]):
            chosen.append(self.write(("point", place), (place,)))
        glued = chosen[0]
        for at in chosen[1:]:
            glued = self.glued(glued, at)
        self.write(("sum", place, glued), tuple([here for here in self.places[glued] if here != place]))

    def recipe_for(self, spot, depth):
        """The recipe whose last line is above 0 at the spot without places, and 0 on the web."""
        last = self.known_lines(depth, spot, 1)[0][0]
        recipe = lines_alone(self.lines[:last + 1])
        if len(recipe) > MOST_LINES:
            raise TooMany(MOST_LINES)
        return recipe
