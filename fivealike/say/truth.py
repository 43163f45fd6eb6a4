"""With which points lines of sayings are true in a web, told by bits.

All rows of k + 1 points, a point for each name, stand in their sequence: a line is told by an
integer with a bit for each of them, whether or not the line's truth hangs on all names.
"""
from fivealike.colour.fields import rows_of


def repeated(bits, step, times):
    """The bits, so many times, each one so many places above the one ahead."""
    found = 0
    for _ in range(times):
        found = found << step | bits
    return found


class Grid:
    """All rows of k + 1 points of a web, as bits."""

    def __init__(self, web, k):
        self.web = web
        self.many = len(web)
        self.k = k
        # For each name how far apart rows are in which its point is the next one.
        self.steps = [1]
        for _ in range(k):
            self.steps.insert(0, self.steps[0] * self.many)
        # Without points there is no row: then the one bit tells lines without free names.
        self.whole = (1 << max(self.steps[0] * self.many, 1)) - 1
        # For each name the bits of the rows in which its point is 0, and what exchanges 0 for all points.
        self.first = [self.first_of(name) for name in range(k + 1)]
        self.every = [repeated(1, step, self.many) for step in self.steps]
        # For each name, and for each point, the bits of the rows in which it is that of this name.
        self.points = [[first << point * step for point in range(self.many)]
                       for first, step in zip(self.first, self.steps)]
        # For each tuple of names that was asked for the pairs of a row and of its place.
        self.spots = {}

    def first_of(self, name):
        """The bits of the rows in which the point of this name is 0."""
        step = self.steps[name]
        ahead = 1
        for _ in range(name):
            ahead = ahead * self.many
        return repeated((1 << step) - 1, step * self.many, ahead)

    def where_tied(self, here, there):
        """The bits of the rows in which the points of these names are tied."""
        own, other = self.points[here], self.points[there]
        found = 0
        for low, high in self.web.ties:
            found = found | own[low] & other[high] | own[high] & other[low]
        return found

    def where_same(self, here, there):
        """The bits of the rows in which the points of these names are one."""
        return sum([own & other for own, other in zip(self.points[here], self.points[there])])

    def where_coloured(self, name, colour):
        """The bits of the rows in which the point of this name has this colour."""
        return sum([bits for bits, own in zip(self.points[name], self.web.colours) if own == colour])

    def shadow(self, name, bits):
        """The bits of the rows with the point 0 for this name that with some other one set the bits."""
        found = 0
        step = self.steps[name]
        for point in range(self.many):
            found = found | bits >> point * step & self.first[name]
        return found

    def sums_over(self, name, bits):
        """With how many points of this name the bits are set, in binary digits, the lowest first.

        The digits stand at the rows in which the point of this name is 0.
        """
        digits = []
        step = self.steps[name]
        for point in range(self.many):
            carried = bits >> point * step & self.first[name]
            for at in range(len(digits)):
                digits[at], carried = digits[at] ^ carried, digits[at] & carried
            if carried:
                digits.append(carried)
        return digits

    def at_least(self, least, name, bits):
        """The bits of the rows in which so many points of this name at least set these bits."""
        if least > self.many:
            return 0
        if least == 1:
            return self.shadow(name, bits) * self.every[name]
        more = 0
        equal = self.first[name]
        digits = self.sums_over(name, bits)
        for at in reversed(range(max(len(digits), least.bit_length()))):
            digit = digits[at] if at < len(digits) else 0
            if least >> at & 1:
                equal = equal & digit
            else:
                more = more | equal & digit
                equal = equal & ~digit
        return (more | equal) * self.every[name]

    def truth_of(self, line, ahead):
        """The bits of the rows with which a line is true, told those of the lines ahead."""
        word = line[0]
        if word == "tie":
            return self.where_tied(line[1], line[2])
        if word == "same":
            return self.where_same(line[1], line[2])
        if word == "colour":
            return self.where_coloured(line[1], line[2])
        if word == "not":
            return self.whole & ~ahead[line[1]]
        if word == "least":
            return self.at_least(line[1], line[2], ahead[line[3]])
        found = self.whole if word == "all" else 0
        for at in line[1]:
            found = found & ahead[at] if word == "all" else found | ahead[at]
        return found

    def truths_of(self, lines):
        """The list of the bits of all lines."""
        found = []
        for line in lines:
            found.append(self.truth_of(line, found))
        return found

    def table_of(self, names, bits):
        """The ascending tuple of the rows of points for these names with which the bits are set."""
        if self.many == 0:
            return ((),) if names == () and bits else ()
        if names not in self.spots:
            self.spots[names] = [(row, self.place_of(names, row)) for row in self.rows_for(names)]
        digits = f"{bits:b}".zfill(self.whole.bit_length())
        last = len(digits) - 1
        return tuple([row for row, place in self.spots[names] if digits[last - place] == "1"])

    def rows_for(self, names):
        """The ascending list of all rows of points for these names."""
        return rows_of(self.many, len(names))

    def place_of(self, names, row):
        """The place of the row with these points for these names, and the point 0 for all others."""
        return sum([point * self.steps[name] for name, point in zip(names, row)])

    def is_true_with(self, names, row, bits):
        """Whether the bits are set with these points for these names, the only ones they hang on."""
        return bits >> self.place_of(names, row) & 1 == 1
