"""All rows of at most k points of a web, told by indices, and what counts behind them.

The rows stand in their sequence, shorter ones ahead, then ascending. So behind the row with the
index i come those with the indices i * many + 1 to i * many + many.
"""
from fivealike.colour.patterns import digit_rows, next_behind, next_colours, next_patterns, ranks_of


def row_number(many, most):
    """How many rows of at most so many points there are, told how many points there are."""
    longest = 1
    found = 1
    for _ in range(most):
        longest = longest * many
        found = found + longest
    return found


def rows_behind(rows, many):
    """The list of the rows with a point behind one of these rows."""
    return [row + (point,) for row in rows for point in range(many)]


def rows_of(many, length):
    """The ascending list of all rows of this length, told how many points there are."""
    rows = [()]
    for _ in range(length):
        rows = rows_behind(rows, many)
    return rows


def rows_up_to(many, most):
    """The list of all rows of at most so many points, shorter ones ahead, then ascending."""
    rows = [()]
    longest = [()]
    for _ in range(most):
        longest = rows_behind(longest, many)
        rows.extend(longest)
    return rows


def index_of(many, row):
    """The index of the row, told how many points there are."""
    at = 0
    for point in row:
        at = at * many + 1 + point
    return at


def without_place(row, place):
    """The row with this place left out."""
    return row[:place] + row[place + 1:]


def cuts_of(row):
    """The list of the rows that come of this one by leaving one place out, the place 0 first."""
    return [without_place(row, place) for place in range(len(row))]


class Field:
    """The rows of at most k points of a web, and those of k + 1 points if they are asked for."""

    def __init__(self, web, k):
        self.web = web
        self.k = k
        self.many = len(web)
        self.digits = digit_rows(web)
        # For each length the lists of the numbers of the rows' colours, and of their patterns.
        self.colours = [[0]]
        self.patterns = [[0]]
        self.behind = [0] * self.many
        for length in range(k):
            self.colours.append(next_colours(self.colours[length], web))
            self.patterns.append(next_patterns(self.patterns[length], self.behind, length, self.many))
            if length < k - 1:
                self.behind = next_behind(self.behind, self.digits, length)
        self.first_long = row_number(self.many, k - 1)
        # What is told of rows of k + 1 points: nothing, as long as no round asks for it.
        self.longer = None
        self.base = 0

    def grow(self):
        """Finds the patterns of the rows of k + 1 points."""
        self.behind = next_behind(self.behind, self.digits, self.k - 1)
        self.patterns.append(next_patterns(self.patterns[self.k], self.behind, self.k, self.many))

    def rank_longer(self, ranks, base):
        """Tells numbers below ranks times base for longer rows, in the sequence of their atoms.

        They need to be right just for points behind one and the same row, or behind alike ones.
        """
        self.base = base
        weight = self.weight_above()
        weighed = {pattern: ranks[pattern] * weight for pattern in ranks}
        step = len(ranks) * weight
        last = [(colour + 1) * step for colour in self.web.colours]
        rows = self.patterns[self.k + 1]
        self.longer = [weighed[pattern] + told for pattern, told in zip(rows, last * len(self.patterns[self.k]))]

    def weight_above(self):
        """The weight of an atom beside the numbers of k cuts."""
        weight = 1
        for _ in range(self.k):
            weight = weight * self.base
        return weight

    def cut_lists(self, longest):
        """For each place of the rows of k + 1 points the list of the numbers of their cuts there.

        `longest` has the numbers of the rows of k points.
        """
        found = []
        size = len(longest)
        for _ in range(self.k + 1):
            found.append(spread(longest, size, self.many))
            size = size // max(self.many, 1)
        return found

    def starts_of(self, row):
        """For each place of a row of k points the index from which the rows with a point behind its cut begin."""
        return [index_of(self.many, cut) * self.many + 1 for cut in cuts_of(row)]


def spread(numbers, size, many):
    """The blocks of this size, one behind the other, each of them so many times."""
    found = []
    for at in range(0, len(numbers), max(size, 1)):
        found.extend(numbers[at:at + size] * many)
    return found


def fields_of(webs, k):
    """The list of the fields of webs that are looked at side by side."""
    return [Field(web, k) for web in webs]


def grow_fields(fields):
    """Finds what the fields tell of longer rows, the same numbers in all of them."""
    if fields[0].longer is not None:
        return
    for field in fields:
        field.grow()
    k = fields[0].k
    ranks = ranks_for(fields, k + 1)
    base = sum([row_number(field.many, k) for field in fields])
    for field in fields:
        field.rank_longer(ranks, base)


def ranks_for(fields, length):
    """The ranks of all patterns that rows of this length have in some field."""
    found = {}
    for field in fields:
        for pattern in field.patterns[length]:
            found[pattern] = True
    return ranks_of(list(found), length)


def longer_codes(field, numbers):
    """The list with a number for each longer row, for its atom and the numbers of its cuts.

    The last cut is the row itself that stands ahead of the point: its number comes with the row.
    """
    weighed = numbers[field.first_long:]
    many = max(field.many, 1)
    cuts = []
    # The first cut weighs most, so that the numbers have the sequence of what they tell.
    for place in reversed(range(field.k)):
        size = len(weighed)
        for _ in range(place):
            size = size // many
        cuts.append(spread(weighed, size, field.many))
        weighed = [number * field.base for number in weighed]
    return added(field.longer, cuts)


def added(first, others):
    """The sums of the members of the first list and of those of one, two or three others, one by one."""
    if len(others) == 1:
        return [one + two for one, two in zip(first, others[0])]
    if len(others) == 2:
        return [one + two + three for one, two, three in zip(first, others[0], others[1])]
    return [one + two + three + four for one, two, three, four in zip(first, others[0], others[1], others[2])]


def kinds_behind(field, numbers, row):
    """The list of what counts of each point behind the row, by the numbers of all rows."""
    many = field.many
    at = index_of(many, row)
    if len(row) < field.k:
        return numbers[at * many + 1:at * many + many + 1]
    cuts = [numbers[start:start + many] for start in field.starts_of(row)]
    return list(zip(longer_behind(field, at), *cuts))


def longer_behind(field, at):
    """For each point behind the row of k points with this index what is told of the longer row."""
    begun = (at - field.first_long) * field.many
    return field.longer[begun:begun + field.many]


def sorted_behind(field, numbers, codes, wanted):
    """For each wanted row the sorted tuple of what counts behind it, for the others ()."""
    many = field.many
    step = max(many, 1)
    short = wanted[:field.first_long]
    found = [tuple(sorted(numbers[at:at + many])) if flag else ()
             for at, flag in zip(range(1, 1 + step * len(short), step), short)]
    found.extend([tuple(sorted(codes[at:at + many])) if flag else ()
                  for at, flag in zip(range(0, len(codes), step), wanted[field.first_long:])])
    return found


def marks_by(field, numbers, wanted):
    """For each row the pair of its number and of what counts behind it, if the row is wanted.

    Two of them are equal just if the numbers are, and the same is counted behind the rows.
    """
    return list(zip(numbers, sorted_behind(field, numbers, longer_codes(field, numbers), wanted)))
