"""Webs, their rows and the atoms of these."""
from fivealike.errors import InvalidNumber, InvalidOperation, InvalidRow, InvalidWeb, TooMany
from fivealike.plain import are_between, is_ascending, is_between

MOST_POINTS = 40
MOST_PLACES = 4
# For each number of places the ascending pairs of places.
PAIRS = (
    (),
    (),
    ((0, 1),),
    ((0, 1), (0, 2), (1, 2)),
    ((0, 1), (0, 2), (0, 3), (1, 2), (1, 3), (2, 3)),
)
LEAST_COLOUR = -1
GREATEST_COLOUR = 9


def are_colours(value):
    """Whether the value is a tuple of colours."""
    return are_between(value, LEAST_COLOUR, GREATEST_COLOUR)


def are_ties(value, many):
    """Whether the value is an ascending tuple of pairs of so many points, the lesser one first."""
    if not isinstance(value, tuple):
        return False
    for tie in value:
        if not are_between(tie, 0, many - 1) or len(tie) != 2 or tie[0] >= tie[1]:
            return False
    return is_ascending(value)


def near_points(many, ties):
    """A tuple with, for each point, the ascending tuple of the points tied to it."""
    near = [[] for _ in range(many)]
    for here, there in ties:
        near[here].append(there)
        near[there].append(here)
    return tuple([tuple(sorted(points)) for points in near])


class Web:
    """Coloured points, some pairs of which are tied. It never changes."""

    def __init__(self, colours, ties):
        if not are_colours(colours) or len(colours) > MOST_POINTS:
            raise InvalidWeb("the colours are a tuple of at most 40 integers from -1 to 9")
        if not are_ties(ties, len(colours)):
            raise InvalidWeb("the ties are an ascending tuple of pairs of points, the lesser first")
        self.colours = colours
        self.ties = ties
        self._near = near_points(len(colours), ties)
        self.degrees = tuple([len(points) for points in self._near])

    def near(self, point):
        """The ascending tuple of the points tied to this one."""
        check_point(self, point)
        return self._near[point]

    def is_tied(self, here, there):
        """Whether two points are tied."""
        check_point(self, here)
        check_point(self, there)
        return there in self._near[here]

    def __len__(self):
        return len(self.colours)

    def __contains__(self, value):
        return is_between(value, 0, len(self.colours) - 1)

    def __eq__(self, other):
        return isinstance(other, Web) and self.colours == other.colours and self.ties == other.ties

    def __str__(self):
        return f"web of {len(self.colours)} points, {len(self.ties)} ties"


def check_web(web):
    """Refuses what is no web."""
    if not isinstance(web, Web):
        raise InvalidWeb("a web is asked for")


def check_point(web, point):
    """Refuses what is no point of the web."""
    if not is_between(point, 0, len(web) - 1):
        raise InvalidNumber(point)


def is_row_of(web, value):
    """Whether the value is a row of this, which is a web."""
    return are_between(value, 0, len(web) - 1) and len(value) <= MOST_PLACES


def check_row(web, row):
    """Refuses what is no row of the web."""
    if not is_row_of(web, row):
        raise InvalidRow("a tuple of at most four points of the web is asked for")


def is_lot(web, value):
    """Whether the value is an ascending tuple of points of this, which is a web."""
    return are_between(value, 0, len(web) - 1) and is_ascending(value)


def part(web, points):
    """The web of some points, numbered anew, and of the ties among them."""
    check_web(web)
    if not is_lot(web, points):
        raise InvalidOperation("an ascending tuple of points of the web is asked for")
    named = {point: at for at, point in enumerate(points)}
    ties = [(named[here], named[there]) for here, there in web.ties if here in named and there in named]
    return Web(tuple([web.colours[point] for point in points]), tuple(ties))


def renamed(web, names):
    """The web with each point i called names[i]."""
    check_web(web)
    many = len(web)
    if not are_between(names, 0, many - 1) or sorted(names) != list(range(many)):
        raise InvalidOperation("a tuple that has each point of the web once is asked for")
    colours = [0] * many
    for point in range(many):
        colours[names[point]] = web.colours[point]
    ties = [(min(names[here], names[there]), max(names[here], names[there])) for here, there in web.ties]
    return Web(tuple(colours), tuple(sorted(ties)))


def recoloured(web, colours):
    """The web with other colours."""
    check_web(web)
    if not are_colours(colours) or len(colours) != len(web):
        raise InvalidOperation("a tuple with a colour from -1 to 9 for each point is asked for")
    return Web(colours, web.ties)


def ties_beside(one, other):
    """The ties of both webs, the points of the other one behind those of the one."""
    many = len(one)
    return list(one.ties) + [(here + many, there + many) for here, there in other.ties]


def check_both(one, other):
    """Refuses what are no two webs, and those with too many points together."""
    check_web(one)
    check_web(other)
    if len(one) + len(other) > MOST_POINTS:
        raise TooMany(MOST_POINTS)


def beside(one, other):
    """Both webs beside one another."""
    check_both(one, other)
    return Web(one.colours + other.colours, tuple(ties_beside(one, other)))


def joined(one, other):
    """Both webs beside one another, all points of the one tied to all of the other one."""
    check_both(one, other)
    many = len(one)
    across = [(here, many + there) for here in range(many) for there in range(len(other))]
    return Web(one.colours + other.colours, tuple(sorted(ties_beside(one, other) + across)))


def opposite(web):
    """The web with just those ties that this one has not."""
    check_web(web)
    many = len(web)
    pairs = [(here, there) for here in range(many) for there in range(here + 1, many)]
    ties = [(here, there) for here, there in pairs if there not in web.near(here)]
    return Web(web.colours, tuple(ties))


def piece_with(web, point):
    """The ascending tuple of the points that hang together with this one."""
    seen = {point: True}
    waiting = [point]
    while waiting != []:
        near = web.near(waiting.pop())
        fresh = [there for there in near if there not in seen]
        for there in fresh:
            seen[there] = True
        waiting.extend(fresh)
    return tuple(sorted(seen))


def pieces(web):
    """The ascending tuple of the pieces of the web."""
    check_web(web)
    found = []
    seen = {}
    for point in range(len(web)):
        if point not in seen:
            piece = piece_with(web, point)
            found.append(piece)
            for there in piece:
                seen[there] = True
    return tuple(found)


def is_row(web, value):
    """Whether the value is a row of the web."""
    check_web(web)
    return is_row_of(web, value)


def atom_at(web, row):
    """The atom of this, which is a row of the web."""
    near = web._near
    pairs = PAIRS[len(row)]
    same = [(low, high) for low, high in pairs if row[low] == row[high]]
    tied = [(low, high) for low, high in pairs if row[high] in near[row[low]]]
    return (tuple([web.colours[point] for point in row]), tuple(same), tuple(tied))


def atom_of(web, row):
    """The atom of a row: its colours, its equal and its tied places."""
    check_web(web)
    check_row(web, row)
    return atom_at(web, row)


def are_like(one, row, other, goal):
    """Whether a row of the first web and one of the second one have equal atoms."""
    check_web(one)
    check_row(one, row)
    check_web(other)
    check_row(other, goal)
    return atom_at(one, row) == atom_at(other, goal)
