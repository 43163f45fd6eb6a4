"""Recipes whose tables are independent, as many as there are types, found by gluing and summing."""
from heapq import heappop, heappush

from fivealike.linear import PRIMES, Echelon
from fivealike.pattern.spaces import atoms_where, type_number
from fivealike.width.hanging import Writer
from fivealike.width.lines import lines_alone


class Table:
    """The values of a line on all types of rows, modulo a prime."""

    def __init__(self, numbers, line, places, inner):
        self.numbers = numbers
        self.line = line
        self.places = places
        # How many points its pattern has at no place, or a few more: lesser ones are taken first.
        self.inner = inner


class Grower:
    """The search for independent tables of the rows of two webs at some rounds."""

    def __init__(self, space, prime):
        self.space = space
        self.prime = prime
        self.writer = Writer()
        found = [colour for field in space.fields for colour in field.web.colours if colour >= 0]
        self.colours = sorted(set(found))

    def one(self, length):
        """The table with 1 everywhere."""
        return Table([1] * self.space.many(length), self.writer.index_of(("one",)), (), 0)

    def atoms(self, length):
        """The tables of the lines of depth 0 that tell of one place or of two."""
        found = []
        for line, values in atoms_where(self.space, self.colours, length).items():
            places = line[1:2] if line[0] == "colour" else line[1:]
            found.append(Table(values, self.writer.index_of(line), places, 0))
        return found

    def line_with(self, table, place):
        """The index of a line as that of the table, but with this place."""
        point = self.writer.index_of(("point", place))
        if place in table.places:
            return table.line
        return point if table.places == () and table.inner == 0 else self.writer.index_of(("glue", table.line, point))

    def summed(self, table, place, behind):
        """The sum of a table over all points at the place, told the types to which these lead."""
        values = [sum([table.numbers[told] for told in types]) % self.prime for types in behind]
        line = self.writer.index_of(("sum", place, self.line_with(table, place)))
        return Table(values, line, tuple([here for here in table.places if here != place]), table.inner + 1)

    def product(self, one, other):
        """The values of the product of two tables."""
        return [number * factor % self.prime for number, factor in zip(one.numbers, other.numbers)]

    def glued(self, one, other, values):
        """The product of two tables, told its values."""
        if one.places == () and one.inner == 0:
            return Table(values, other.line, other.places, other.inner)
        line = self.writer.index_of(("glue", one.line, other.line))
        return Table(values, line, tuple(sorted(set(one.places + other.places))), one.inner + other.inner)

    def basis(self, length, depth):
        """Independent tables on the rows of this length of lines of at most this depth, as many as types."""
        if length > self.space.k:
            return self.long_basis(depth)
        basis = Basis(self.prime, self.one(length))
        basis.add_factors(self.atoms(length))
        if depth > 0:
            behind = self.space.behind(length)
            basis.add_factors([self.summed(table, length, behind) for table in self.basis(length + 1, depth - 1)])
        basis.grow(self.space.many(length), self)
        return basis.tables

    def long_number(self, depth):
        """How many types of rows of k + 1 points there are at the depth."""
        return type_number(self.space.fields, self.space.rounds[depth], self.space.k + 1)

    def long_basis(self, depth):
        """The same for the rows of k + 1 points."""
        length = self.space.k + 1
        exchanged = [self.space.exchanged(place) for place in range(length)] if depth > 0 else []
        basis = Basis(self.prime, self.one(length))
        basis.add_factors(self.atoms(length))
        basis.grow(self.long_number(0) if depth > 0 else self.space.many(length), self)
        done = 0
        for at in range(1, depth + 1):
            fresh = basis.tables[done:]
            done = len(basis.tables)
            basis.add_factors([self.summed(table, place, exchanged[place])
                               for table in fresh for place in range(length)])
            basis.grow(self.long_number(at), self)
        return basis.tables


class Basis:
    """Independent tables, each of which is a product of one ahead and of a factor."""

    def __init__(self, prime, one):
        self.prime = prime
        self.echelon = Echelon(prime)
        self.tables = [one] if self.echelon.take(one.numbers) else []
        self.factors = []
        self.known = {}
        self.tried = {}
        # Products that are to be looked at, those with few inner points first.
        self.queue = []

    def add_factors(self, factors):
        """Adds the factors, but those whose values another one has."""
        for _, at in sorted([(factor.inner, at) for at, factor in enumerate(factors)]):
            values = tuple(factors[at].numbers)
            if values not in self.known:
                self.known[values] = True
                self.factors.append(factors[at])
                for here in range(len(self.tables)):
                    self.push(here, len(self.factors) - 1)

    def push(self, at, by):
        """Puts the product of a table and a factor into the queue."""
        heappush(self.queue, (self.tables[at].inner + self.factors[by].inner, at, by))

    def is_fresh(self, values):
        """Whether these values were not asked for before."""
        key = tuple(values)
        if key in self.tried:
            return False
        self.tried[key] = True
        return True

    def grow(self, wanted, grower):
        """Finds as many tables as wanted: those of all products are sums of multiples of so many."""
        while len(self.tables) < wanted and self.queue != []:
            _, at, by = heappop(self.queue)
            values = grower.product(self.tables[at], self.factors[by])
            if self.is_fresh(values) and self.echelon.take(values):
                self.tables.append(grower.glued(self.tables[at], self.factors[by], values))
                for factor in range(len(self.factors)):
                    self.push(len(self.tables) - 1, factor)
        self.queue = []


def basis_of(space, length):
    """The grower, and the list of independent tables on rows of this length, as many as there are types."""
    for prime in PRIMES:
        grower = Grower(space, prime)
        basis = grower.basis(length, space.depth_at(length))
        if len(basis) == space.many(length):
            break
    # Some of the primes does: what parts two types tells unlike numbers modulo nearly all primes.
    return (grower, basis)


def recipe_at(grower, line):
    """The recipe that ends with this line."""
    return lines_alone(grower.writer.lines[:line + 1])
