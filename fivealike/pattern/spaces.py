"""The types of the rows of two webs at a round, and functions that have one value on each type."""
from fivealike.colour.fields import grow_fields, row_number


def type_keys(field, names, length):
    """The list of what tells the type of each row of this length, of at most k + 1 points."""
    if length > field.k:
        cuts = field.cut_lists(names[field.first_long:])
        return list(zip(field.patterns[length], *cuts))
    begun = row_number(field.many, length - 1) if length > 0 else 0
    return names[begun:row_number(field.many, length)]


def numbers_of_types(fields, names, length):
    """For each field the list of the numbers of the types of its rows, from 0 on as they come first."""
    grow_fields(fields)
    known = {}
    found = []
    for field, own in zip(fields, names):
        found.append([known.setdefault(key, len(known)) for key in type_keys(field, own, length)])
    return found


def type_number(fields, names, length):
    """How many types of rows of this length there are."""
    return max([max(types, default=-1) for types in numbers_of_types(fields, names, length)]) + 1


class Space:
    """The types of the rows of at most k + 1 points of two webs at a round."""

    def __init__(self, fields, names):
        self.fields = fields
        self.k = fields[0].k
        # For each length the lists of the types of the rows, and for each type one row of it.
        self.types = [numbers_of_types(fields, names, length) for length in range(self.k + 2)]
        self.samples = [self.samples_of(length) for length in range(self.k + 2)]

    def samples_of(self, length):
        """For each type of rows of this length the pair of a web's index and a row's number there."""
        found = {}
        for which, types in enumerate(self.types[length]):
            for at, told in enumerate(types):
                found.setdefault(told, (which, at))
        return [found[told] for told in range(len(found))]

    def many(self, length):
        """How many types of rows of this length there are."""
        return len(self.samples[length])

    def digit_at(self, which, at, place):
        """The pair of the point at the place of a row of k + 1 points, and of how far rows with other points are."""
        many = self.fields[which].many
        step = 1
        for _ in range(self.k - place):
            step = step * many
        return (at // step % many, step)

    def behind(self, length):
        """For each type of rows of this length, at most k, the list of the types of the rows with a point behind."""
        found = []
        for which, at in self.samples[length]:
            many = self.fields[which].many
            found.append(self.types[length + 1][which][at * many:at * many + many])
        return found

    def exchanged(self, place):
        """For each type of rows of k + 1 points the list of the types of the rows with any point at the place."""
        found = []
        for which, at in self.samples[self.k + 1]:
            point, step = self.digit_at(which, at, place)
            first = at - point * step
            types = self.types[self.k + 1][which]
            found.append([types[first + other * step] for other in range(self.fields[which].many)])
        return found

    def counts(self, length):
        """For each web the list of how often each type of rows of this length comes."""
        found = []
        for types in self.types[length]:
            often = [0] * self.many(length)
            for told in types:
                often[told] += 1
            found.append(often)
        return found

    def row_at(self, which, length, at):
        """The row of this length with this number."""
        many = self.fields[which].many
        row = ()
        left = at
        for _ in range(length):
            row = (left % many,) + row
            left = left // many
        return row

    def atoms_where(self, line, length):
        """The list of the values, 0 or 1, of a line of depth 0 on the types of rows of this length."""
        found = []
        for which, at in self.samples[length]:
            row = self.row_at(which, length, at)
            found.append(1 if is_where(self.fields[which].web, line, row) else 0)
        return found


def is_where(web, line, row):
    """Whether a line of depth 0 with a place tells 1 with the points of the row at all places."""
    if line[0] == "tie":
        return web.is_tied(row[line[1]], row[line[2]])
    if line[0] == "same":
        return row[line[1]] == row[line[2]]
    return line[0] != "colour" or web.colours[row[line[1]]] == line[2]


def atom_lines(colours, places):
    """The lines of depth 0 for the first so many places, without those that always tell 1."""
    lines = []
    for high in range(places):
        for low in range(high):
            lines.append(("tie", low, high))
            lines.append(("same", low, high))
        for colour in colours:
            lines.append(("colour", high, colour))
    return lines
