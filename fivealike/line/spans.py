"""The tables of line recipes with all places: how many of them span all, and what they tell."""
from fivealike.errors import TooMany
from fivealike.line.rows import Line
from fivealike.linear import PRIMES, Echelon, in_least_terms, reduced, undone
from fivealike.pattern.spaces import atoms_where
from fivealike.program.checked import least_common, number_of_row
from fivealike.program.partials import pairs_for, partners_in, points_in

MOST_SPAN = 64


class Span:
    """Tables of line recipes of two webs, by their values on all types of rows of k + 1 points."""

    def __init__(self, space):
        self.space = space
        self.places = space.k + 1
        self.counts = space.counts(self.places)
        colours = sorted(set([colour for field in space.fields for colour in field.web.colours if colour >= 0]))
        self.atoms = atoms_where(space, colours, self.places)
        self.exchanged = [space.exchanged(place) for place in range(self.places)]
        # All steps from one table to another: lines that are glued, and places that are summed.
        self.steps = list(self.atoms) + [("sum", place) for place in range(self.places)]
        # Each table with the index of the one of which it comes, and the step by which it does.
        self.tables = []
        self.froms = []

    def behind(self, table, step):
        """The table to which a step leads from this one."""
        if step[0] == "sum":
            return [sum([table[told] for told in types]) for types in self.exchanged[step[1]]]
        return [number * factor for number, factor in zip(table, self.atoms[step])]

    def is_unlike(self, table):
        """Whether the numbers of all rows of both webs together are unlike."""
        sums = [sum([number * often for number, often in zip(table, counts)]) for counts in self.counts]
        return sums[0] != sums[1]

    def search(self, prime, to_part):
        """Finds tables that span all, modulo a prime; ends with one that parts the webs, if this is asked for.

        Whether such a one was found.
        """
        echelon = Echelon(prime)
        self.tables = []
        self.froms = []
        tried = {}
        waiting = [([1] * self.space.many(self.places), None)]
        at = 0
        while at < len(waiting) and not self.has_all():
            table, came = waiting[at]
            at += 1
            key = tuple(table)
            if key not in tried and echelon.take(table):
                if len(self.tables) == MOST_SPAN:
                    raise TooMany(MOST_SPAN)
                self.tables.append(table)
                self.froms.append(came)
                if to_part and self.is_unlike(table):
                    return True
                here = len(self.tables) - 1
                waiting.extend([(self.behind(table, step), (here, step)) for step in self.steps])
            tried[key] = True
        return False

    def has_all(self):
        """Whether there are as many tables as types: no more can be independent."""
        return len(self.tables) == self.space.many(self.places)

    def basis(self):
        """Rows that span just what the tables span, and where they begin."""
        many = self.space.many(self.places)
        if self.has_all():
            return ([[1 if here == at else 0 for here in range(many)] for at in range(many)], list(range(many)))
        return reduced(self.tables, many)

    def is_closed(self, rows, begun):
        """Whether all steps lead from the rows to sums of multiples of them."""
        if self.has_all():
            return True
        whole = least_common([row[at] for row, at in zip(rows, begun)])
        for step in self.steps:
            for row in rows:
                image = self.behind(row, step)
                left = [number * whole for number in image]
                for other, at in zip(rows, begun):
                    times = image[at] * (whole // other[at])
                    if times:
                        left = [number - times * known for number, known in zip(left, other)]
                if any(left):
                    return False
        return True

    def recipe_of(self, at):
        """The line recipe of the table with this index, all of its places summed out."""
        steps = []
        while self.froms[at] is not None:
            at, step = self.froms[at]
            steps.append(step)
        line = Line()
        places = {}
        for step in reversed(steps):
            for place in step[1:2] if step[0] in ("sum", "colour") else step[1:]:
                if step[0] == "sum" and place not in places:
                    line.glue(("point", place))
                places[place] = True
            if step[0] == "sum":
                line.sum_out(step[1])
                del places[step[1]]
            else:
                line.glue(step)
        if line.last is None:
            # The webs have unlike many points: these are counted.
            line.glue(("point", 0))
            places[0] = True
        for place in sorted(places):
            line.sum_out(place)
        return line.recipe()


class Signs:
    """What a span without unlike numbers tells of pairs of types: a point of any sign."""

    def __init__(self, span, rows):
        self.rows = rows
        counts = span.counts[0]
        products = [[sum([often * here * there for often, here, there in zip(counts, one, other)]) for other in rows]
                    for one in rows]
        columns = undone(products)
        self.whole = least_common([whole for whole, _ in columns])
        self.columns = [[number * (self.whole // whole) for number in column] for whole, column in columns]
        self.known = {}

    def weighed(self, told):
        """For each row the sum of what undoes the products, times the values of the rows on a type."""
        values = [row[told] for row in self.rows]
        return [sum([value * column[at] for value, column in zip(values, self.columns)])
                for at in range(len(self.rows))]

    def number_for(self, here, there):
        """What is told of rows of k + 1 points of these types, of the one web and of the other."""
        if there not in self.known:
            self.known[there] = self.weighed(there)
        return sum([row[here] * number for row, number in zip(self.rows, self.known[there])])


def filled(row, length):
    """The row, its last point so many times that it is of this length."""
    return row + row[len(row) - 1:] * (length - len(row))


def signed_point(one, other, span, rows):
    """A point of any sign, told rows that span just the tables of a span without unlike numbers."""
    signs = Signs(span, rows)
    length = span.places
    types = span.space.types(length)
    told = {(): signs.whole}
    for partial in pairs_for(one, other).partials_up_to(length)[1:]:
        # What rows with one place more tell in all is told by a row that has its last point twice.
        here = types[0][number_of_row(len(one), filled(points_in(partial), length))]
        there = types[1][number_of_row(len(other), filled(partners_in(partial), length))]
        number = signs.number_for(here, there)
        if number != 0:
            told[partial] = number
    numbers = in_least_terms([told[partial] for partial in sorted(told)])
    told = {partial: number for partial, number in zip(sorted(told), numbers)}
    return (told[()], told)


def found_span(space, to_part):
    """The span of both webs, and rows that span just its tables, None if a table parts the webs."""
    for prime in PRIMES:
        span = Span(space)
        if span.search(prime, to_part):
            return (span, None)
        rows, begun = span.basis()
        if span.is_closed(rows, begun):
            break
    return (span, rows)
