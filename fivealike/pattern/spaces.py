"""The types of the rows of two webs at a round, and functions that have one value on each type."""
from fivealike.colour.fields import row_number, spread
from fivealike.colour.names import names_there
from fivealike.colour.patterns import SAME, TIED


def type_keys(field, names, length, base):
    """The list of a number for the type of each row of this length, by the names of all rows, below the base."""
    if length <= field.k:
        begun = row_number(field.many, length - 1) if length > 0 else 0
        return names[begun:row_number(field.many, length)]
    lists = []
    weighed = names[field.first_long:]
    for cuts in field.cut_sizes():
        lists.append(spread(weighed, cuts, field.many))
        weighed = [name * base for name in weighed]
    if field.k == 1:
        # Just of rows of two points the cuts do not tell the atom.
        lists.append([bits * base * base for row in field.digits for bits in row])
    return added(lists)


def added(lists):
    """The sums of the members of three or four lists, one by one."""
    if len(lists) == 3:
        return [one + two + three for one, two, three in zip(lists[0], lists[1], lists[2])]
    return [one + two + three + four for one, two, three, four in zip(lists[0], lists[1], lists[2], lists[3])]


def all_type_keys(fields, names, length):
    """For each field the list of a number for the type of each of its rows of this length."""
    base = max([max(own) for own in names]) + 1
    return [type_keys(field, own, length, base) for field, own in zip(fields, names)]


def numbers_of_types(fields, names, length):
    """For each field the list of the numbers of the types of its rows, from 0 on as they come first."""
    known = {}
    return [[known.setdefault(key, len(known)) for key in own] for own in all_type_keys(fields, names, length)]


def type_number(fields, names, length):
    """How many types of rows of this length there are."""
    return len(set([key for own in all_type_keys(fields, names, length) for key in own]))


class Space:
    """The types of the rows of at most k + 1 points of two webs: those of rows of some length at a depth.

    Types of rows with a point more are told at the depth one below, and so on.
    """

    def __init__(self, fields, rounds, length, depth):
        self.fields = fields
        self.k = fields[0].k
        self.rounds = rounds
        self.top = length + depth
        # For each length that was asked for the types of the rows, and for each type one row of it.
        self.told = {}
        self.sampled = {}

    def depth_at(self, length):
        """The depth at which the types of rows of this length are told."""
        return max(self.top - length, 0)

    def types(self, length):
        """For each web the list of the types of its rows of this length."""
        if length not in self.told:
            names = names_there(self.rounds, self.depth_at(length))
            self.told[length] = numbers_of_types(self.fields, names, length)
        return self.told[length]

    def samples(self, length):
        """For each type of rows of this length the pair of a web's index and a row's number there."""
        if length not in self.sampled:
            found = {}
            for which, types in enumerate(self.types(length)):
                for at, told in enumerate(types):
                    found.setdefault(told, (which, at))
            self.sampled[length] = [found[told] for told in range(len(found))]
        return self.sampled[length]

    def many(self, length):
        """How many types of rows of this length there are."""
        return len(self.samples(length))

    def digit_at(self, which, at, place):
        """The pair of the point at the place of a row of k + 1 points, and of how far rows with other points are."""
        many = self.fields[which].many
        step = 1
        for _ in range(self.k - place):
            step = step * many
        return (at // step % many, step)

    def behind(self, length):
        """For each type of rows of this length, at most k, the list of the types of the rows with a point behind."""
        found = []
        longer = self.types(length + 1)
        for which, at in self.samples(length):
            many = self.fields[which].many
            found.append(longer[which][at * many:at * many + many])
        return found

    def exchanged(self, place):
        """For each type of rows of k + 1 points the list of the types of the rows with any point at the place."""
        found = []
        for which, at in self.samples(self.k + 1):
            point, step = self.digit_at(which, at, place)
            first = at - point * step
            types = self.types(self.k + 1)[which]
            found.append([types[first + other * step] for other in range(self.fields[which].many)])
        return found

    def counts(self, length):
        """For each web the list of how often each type of rows of this length comes."""
        found = []
        for types in self.types(length):
            often = [0] * self.many(length)
            for told in types:
                often[told] += 1
            found.append(often)
        return found

    def row_at(self, which, length, at):
        """The row of this length with this number."""
        many = self.fields[which].many
        row = ()
        left = at
        for _ in range(length):
            row = (left % many,) + row
            left = left // many
        return row

    def sample_rows(self, length):
        """For each type of rows of this length the pair of the field and of a row of it."""
        return [(self.fields[which], self.row_at(which, length, at)) for which, at in self.samples(length)]


def stable_space(fields, rounds):
    """The types of rows at the stable round, which is the last one of these."""
    return Space(fields, rounds, fields[0].k + 1, len(rounds) - 1)


def numbers_where(samples, line):
    """The list of the values, 0 or 1, of a line of depth 0 on sample rows."""
    if line[0] == "colour":
        return [1 if field.web.colours[row[line[1]]] == line[2] else 0 for field, row in samples]
    bits = TIED if line[0] == "tie" else SAME
    return [1 if field.digits[row[line[1]]][row[line[2]]] == bits else 0 for field, row in samples]


def atom_lines(colours, places):
    """The lines of depth 0 for the first so many places, without those that always tell 1."""
    lines = []
    for high in range(places):
        for low in range(high):
            lines.append(("tie", low, high))
            lines.append(("same", low, high))
        for colour in colours:
            lines.append(("colour", high, colour))
    return lines


def atoms_where(space, colours, length):
    """A dict from these lines to the lists of their values on the types of rows of this length."""
    samples = space.sample_rows(length)
    return {line: numbers_where(samples, line) for line in atom_lines(colours, length)}
