"""All rows of at most k points of a web, told by indices, and what stands behind them."""
from fivealike.plain import counted
from fivealike.web.webs import atom_at


def row_number(many, most):
    """How many rows of at most so many points there are, told how many points there are."""
    longest = 1
    found = 1
    for _ in range(most):
        longest = longest * many
        found = found + longest
    return found


def rows_up_to(many, most):
    """The list of all rows of at most so many points, shorter ones ahead, then ascending.

    So behind the row with the index i come those with i * many + 1 and the next indices.
    """
    rows = [()]
    longest = [()]
    for _ in range(most):
        longest = [row + (point,) for row in longest for point in range(many)]
        rows = rows + longest
    return rows


def without_place(row, place):
    """The row with this place left out."""
    return row[:place] + row[place + 1:]


def cuts_of(row):
    """The list of the rows that come of this one by leaving one place out, the place 0 first."""
    return [without_place(row, place) for place in range(len(row))]


class Field:
    """All rows of at most k points of a web."""

    def __init__(self, web, k):
        self.many = len(web)
        self.rows = rows_up_to(len(web), k)
        self.index = {row: at for at, row in enumerate(self.rows)}
        self.atoms = [atom_at(web, row) for row in self.rows]
        self.first_long = row_number(len(web), k - 1)
        # For each row of k points and each point behind it: the atom, and the indices of the cuts.
        self.longer = [self.longer_of(web, row) for row in self.rows[self.first_long:]]
        # The same, with a number in the place of the atom; fields side by side have these in common.
        self.behind = []

    def longer_of(self, web, row):
        """For each point behind a row of k points the atom, and the indices of the cuts."""
        rows = [row + (point,) for point in range(self.many)]
        return [(atom_at(web, far), tuple([self.index[cut] for cut in cuts_of(far)])) for far in rows]

    def cuts_behind(self, at):
        """What is told of the points behind the row of k points with this index."""
        return self.behind[at - self.first_long]


def fields_of(webs, k):
    """The list of the fields of webs that are looked at side by side."""
    fields = [Field(web, k) for web in webs]
    atoms = {}
    for field in fields:
        for longer in field.longer:
            for atom, _ in longer:
                atoms[atom] = True
    # The numbers have the sequence of the atoms, so that what is counted is sorted alike.
    ranks = {told: at for at, told in enumerate(sorted(atoms))}
    for field in fields:
        field.behind = [with_ranks(behind, ranks) for behind in field.longer]
    return fields


def with_ranks(longer, ranks):
    """The list of what is told of longer rows, with the numbers of atoms in the place of these."""
    return [(ranks[atom], cuts) for atom, cuts in longer]


def with_cuts(longer, numbers):
    """The list of what is told of longer rows and the numbers of their cuts."""
    return [(told, tuple([numbers[cut] for cut in cuts])) for told, cuts in longer]


def kinds_behind(field, numbers, at):
    """The list with what is counted of each point behind the row with this index, by the numbers."""
    if at < field.first_long:
        return numbers[at * field.many + 1:at * field.many + field.many + 1]
    return with_cuts(field.cuts_behind(at), numbers)


def counted_behind(field, numbers):
    """The list with what is counted behind each row."""
    return [counted(kinds_behind(field, numbers, at)) for at in range(len(field.rows))]


def first_names(fields):
    """For each field the list of the names of its rows at the round 0."""
    return names_of([[(len(row), atom) for row, atom in zip(field.rows, field.atoms)] for field in fields])


def next_names(fields, names):
    """For each field the list of the names at the next round."""
    # The names ahead have the shorter rows ahead, so marks need no lengths.
    pairs = list(zip(fields, names))
    return names_of([list(zip(own, counted_behind(field, own))) for field, own in pairs])


def names_of(marks):
    """The indices of marks among all of them, put in sequence, each once."""
    known = {}
    for own in marks:
        for mark in own:
            known[mark] = True
    index = {told: at for at, told in enumerate(sorted(known))}
    return [[index[told] for told in those] for those in marks]


def many_names(names):
    """How many names there are at a round."""
    return max([max(own) for own in names]) + 1


def rounds_up_to(fields, depth):
    """The list of the names at the rounds up to the depth, but at most to the stable one.

    At all rounds behind the stable one the names are those of the stable one: the marks then
    have the sequence of the names that they begin with. For the depth None it comes last.
    """
    rounds = [first_names(fields)]
    is_stable = False
    while not is_stable and (depth is None or len(rounds) <= depth):
        later = next_names(fields, rounds[-1])
        is_stable = many_names(later) == many_names(rounds[-1])
        if not is_stable:
            rounds.append(later)
    return rounds


def names_there(rounds, depth):
    """The names at the round with this number, of rounds up to it or to the stable one."""
    return rounds[min(depth, len(rounds) - 1)]


def as_dict(field, numbers):
    """The dict from the rows to these numbers."""
    return {row: number for row, number in zip(field.rows, numbers)}
