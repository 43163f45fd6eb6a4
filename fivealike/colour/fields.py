"""All rows of at most k points of a web, told by indices, and what counts behind them.

The rows stand in their sequence, shorter ones ahead, then ascending. So behind the row with the
index i come those with the indices i * many + 1 to i * many + many.
"""
from fivealike.colour.patterns import (FIRST_PAIRS, PATTERN_BITS, digit_rows, next_behind, next_colours, next_patterns,
                                       rank_of)


def row_number(many, most):
    """How many rows of at most so many points there are, told how many points there are."""
    longest = 1
    found = 1
    for _ in range(most):
        longest = longest * many
        found = found + longest
    return found


def rows_behind(rows, many):
    """The list of the rows with a point behind one of these rows."""
    return [row + (point,) for row in rows for point in range(many)]


def rows_of(many, length):
    """The ascending list of all rows of this length, told how many points there are."""
    rows = [()]
    for _ in range(length):
        rows = rows_behind(rows, many)
    return rows


def rows_up_to(many, most):
    """The list of all rows of at most so many points, shorter ones ahead, then ascending."""
    rows = [()]
    longest = [()]
    for _ in range(most):
        longest = rows_behind(longest, many)
        rows.extend(longest)
    return rows


def index_of(many, row):
    """The index of the row, told how many points there are."""
    at = 0
    for point in row:
        at = at * many + 1 + point
    return at


def row_at(many, at):
    """The row with this index, told how many points there are."""
    row = ()
    left = at
    while left > 0:
        row = ((left - 1) % many,) + row
        left = (left - 1) // many
    return row


def without_place(row, place):
    """The row with this place left out."""
    return row[:place] + row[place + 1:]


def cuts_of(row):
    """The list of the rows that come of this one by leaving one place out, the place 0 first."""
    return [without_place(row, place) for place in range(len(row))]


class Field:
    """The rows of at most k points of a web."""

    def __init__(self, web, k):
        self.web = web
        self.k = k
        self.many = len(web)
        self.own_colours = [colour + 1 for colour in web.colours]
        # For each point the list of the bits that it makes with all points.
        self.digits = digit_rows(self.many, web.ties)
        # For each length the lists of the numbers of the rows' colours, and of their patterns.
        self.colours = [[0]]
        self.patterns = [[0]]
        behind = [0] * self.many
        for length in range(k):
            self.colours.append(next_colours(self.colours[length], self.own_colours))
            self.patterns.append(next_patterns(self.patterns[length], behind, length))
            if length < k - 1:
                behind = next_behind(behind, self.digits, length)
        self.first_long = row_number(self.many, k - 1)

    def bits_behind(self, row):
        """For each point the bits that it makes with the points of the row."""
        found = [0] * self.many
        for place, point in enumerate(row):
            found = [bits | more << place for bits, more in zip(found, self.digits[point])]
        return found

    def atoms_behind(self, row):
        """For each point a number for the atom of the row with it behind, right for rows that have one atom."""
        return [colour << PATTERN_BITS | bits for colour, bits in zip(self.own_colours, self.bits_behind(row))]

    def ranks_behind(self, row):
        """The same, with numbers that have the sequence of atoms."""
        pattern = self.patterns[len(row)][index_of(self.many, row) - row_number(self.many, len(row) - 1)]
        first = FIRST_PAIRS[len(row)]
        return [colour << PATTERN_BITS | rank_of(pattern | bits << first)
                for colour, bits in zip(self.own_colours, self.bits_behind(row))]

    def cut_sizes(self):
        """For each place of rows of k + 1 points the size of the blocks that rows of k points make there.

        Each block stands so many times as there are points, in a list of what is told of the cuts.
        """
        sizes = [1]
        for _ in range(self.k):
            sizes.append(sizes[-1] * self.many)
        return sizes[::-1]

    def starts_of(self, row):
        """For each place of a row of k points the index from which the rows with a point behind its cut begin."""
        return [index_of(self.many, cut) * self.many + 1 for cut in cuts_of(row)]

    def cuts_behind(self, numbers, row):
        """For each place of a row of k points the list of the numbers of its cut with each point behind."""
        return [numbers[start:start + self.many] for start in self.starts_of(row)]


def spread(numbers, size, many):
    """The blocks of this size, one behind the other, each of them so many times."""
    found = []
    for at in range(0, len(numbers), max(size, 1)):
        found.extend(numbers[at:at + size] * many)
    return found


def fields_of(webs, k):
    """The list of the fields of webs that are looked at side by side; equal webs have one field."""
    fields = []
    for at, web in enumerate(webs):
        fields.append(fields[webs.index(web)] if web in webs[:at] else Field(web, k))
    return fields


def kinds_behind(field, numbers, row):
    """The list of what counts of each point behind the row, by the numbers of all rows, which tell atoms."""
    many = field.many
    if len(row) < field.k:
        at = index_of(many, row)
        return numbers[at * many + 1:at * many + many + 1]
    if field.k == 1:
        # Just of rows of two points the cuts do not tell the atom.
        return list(zip(field.digits[row[0]], field.cuts_behind(numbers, row)[0]))
    cuts = field.cuts_behind(numbers, row)
    return list(zip(*cuts))
