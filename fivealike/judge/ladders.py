"""Papers that webs are alike: ladders and tables."""
from fivealike.judge.plain import are_between, is_integer, is_tuple_of, without_place

# A pair of places is told by 0, by 1 for tied points, by 2 for one point; a colour by 0 to 10.
WAYS = 3
COLOURS = 11


class Rows:
    """All rows of at most k points of a graph, shorter ones ahead, then ascending.

    So behind the row with the index i come those with the indices i * many + 1 to i * many + many.
    """

    def __init__(self, graph, k):
        self.k = k
        self.many = graph.many
        self.rows = [()]
        self.atoms = [0]
        # The numbers of the atoms of the rows with a point behind rows of k points.
        self.longer = []
        begun = 0
        for length in range(k + 1):
            ended = len(self.rows)
            atoms = [self.atom_behind(graph, at, point) for at in range(begun, ended) for point in range(self.many)]
            if length == k:
                self.longer = atoms
                self.first_long = begun
            else:
                self.rows.extend([row + (point,) for row in self.rows[begun:ended] for point in range(self.many)])
                self.atoms.extend(atoms)
            begun = ended

    def atom_behind(self, graph, at, point):
        """A number for the atom of the row with this index and a point behind it."""
        number = self.atoms[at]
        for here in self.rows[at]:
            number = number * WAYS + (2 if here == point else graph.near[point] >> here & 1)
        return number * COLOURS + graph.colours[point] + 1

    def index_of(self, row):
        """The index of the row."""
        at = 0
        for point in row:
            at = at * self.many + 1 + point
        return at

    def behind(self, numbers, at):
        """What is counted behind the row with this index, told a number for each row: all of it, in a sequence."""
        many = self.many
        if at < self.first_long:
            return sorted(numbers[at * many + 1:at * many + many + 1])
        row = self.rows[at]
        starts = [self.index_of(without_place(row, place)) * many + 1 for place in range(self.k)]
        begun = (at - self.first_long) * many
        cuts = [numbers[start:start + many] for start in starts]
        # The last place left out leaves the row itself, whose number is told beside.
        return sorted(zip(self.longer[begun:begun + many], *cuts))


def is_numbering(rows, value):
    """Whether the value is a dict from just all of the rows to integers."""
    if not isinstance(value, dict) or len(value) != len(rows.rows):
        return False
    if not all([are_between(row, 0, rows.many - 1) and len(row) <= rows.k for row in value]):
        return False
    return all([is_integer(number) for number in list(value.values())])


def are_numberings(both, value):
    """Whether the value is a pair of such dicts, one for the rows of each of both graphs."""
    return is_tuple_of(value, 2) and is_numbering(both[0], value[0]) and is_numbering(both[1], value[1])


def numbers_told(both, pair):
    """For each of both graphs the list of a small number for each row, equal for equal lengths and integers."""
    index = {}
    found = []
    for rows, told in zip(both, pair):
        found.append([index.setdefault((len(row), told[row]), len(index)) for row in rows.rows])
    return found


def do_tell(numbers, things):
    """Whether rows that have one number have one and the same thing told of them."""
    told = {}
    for own, those in zip(numbers, things):
        for number, thing in zip(own, those):
            if told.setdefault(number, thing) != thing:
                return False
    return True


def do_follow(both, lower, upper):
    """Whether rows with one number have one, and the same counted behind them, a round below."""
    things = [[(number, rows.behind(own, at)) for at, number in enumerate(own)] for rows, own in zip(both, lower)]
    return do_tell(upper, things)


def do_begin(both, numbers):
    """Whether rows with one number have one atom."""
    return do_tell(numbers, [rows.atoms for rows in both])


def do_agree(steps):
    """Whether at each step the empty rows have one number."""
    return all([numbers[0][0] == numbers[1][0] for numbers in steps])


def both_rows(one, other, k):
    """The pair of the rows of both graphs."""
    return (Rows(one, k), Rows(other, k))


def is_table(one, other, k, value):
    """Whether the value is a table of both graphs."""
    both = both_rows(one, other, k)
    if not are_numberings(both, value):
        return False
    numbers = numbers_told(both, value)
    return do_agree([numbers]) and do_begin(both, numbers) and do_follow(both, numbers, numbers)


def is_ladder(one, other, k, depth, value):
    """Whether the value is a ladder of both graphs to the depth."""
    if not is_tuple_of(value, depth + 1):
        return False
    both = both_rows(one, other, k)
    if not all([are_numberings(both, pair) for pair in value]):
        return False
    steps = [numbers_told(both, pair) for pair in value]
    if not do_agree(steps) or not do_begin(both, steps[0]):
        return False
    for at in range(depth):
        # A step that stands below, too, has been looked at there.
        is_new = at == 0 or steps[at] != steps[at - 1] or steps[at + 1] != steps[at]
        if is_new and not do_follow(both, steps[at], steps[at + 1]):
            return False
    return True
