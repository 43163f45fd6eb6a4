"""Papers for whether webs are the same: maps, and tries that no map can be."""
from fivealike.judge.graphs import are_rows_like, points_of
from fivealike.judge.plain import are_between, are_unlike, is_between, is_integer, is_lot, is_tuple_of


def is_same_map(one, other, value):
    """Whether the value is a one to one map of all points that keeps colours, ties and what is not tied."""
    if one.many != other.many or not is_tuple_of(value, one.many) or not are_between(value, 0, other.many - 1):
        return False
    if not are_unlike(value) or not all([one.colours[at] == other.colours[value[at]] for at in range(one.many)]):
        return False
    # With as many ties in both webs no other pair is led to a tie.
    if len(one.ties) != len(other.ties):
        return False
    return all([other.is_tied(value[here], value[there]) for here, there in one.ties])


def is_unlike_row(graph, value):
    """Whether the value is a tuple of unlike points."""
    return are_between(value, 0, graph.many - 1) and are_unlike(value)


def is_like_pair(one, other, value):
    """Whether the value is a pair of like rows of both webs."""
    if not is_tuple_of(value, 2) or not is_unlike_row(one, value[0]) or not is_unlike_row(other, value[1]):
        return False
    return are_rows_like(one, value[0], other, value[1])


def is_look(value, many):
    """Whether the value has the form of a look from a row of so many points."""
    return is_tuple_of(value, 3) and is_integer(value[0]) and is_lot(value[1], many) and is_lot(value[2], many)


def bits_with(graph, row, look):
    """The bits of the points that have the look from the row."""
    colour, at, tied = look
    bits = sum([1 << point for point, own in enumerate(graph.colours) if own == colour])
    for place, point in enumerate(row):
        near, itself = graph.near[point], 1 << point
        bits = bits & (near if place in tied else ~near) & (itself if place in at else ~itself)
    return bits


def number_with(graph, row, look):
    """How many points have the look from the row."""
    return len(points_of(bits_with(graph, row, look)))


def look_of_fresh(graph, row, point):
    """The look of a point that the row lacks."""
    tied = [place for place, here in enumerate(row) if graph.near[point] >> here & 1]
    return (graph.colours[point], (), tuple(tied))


def is_right_try(one, other, rows, value, tries):
    """Whether the value shows that no map leads the one row of this pair to the other, if all tries are right."""
    row, goal = rows
    if not is_tuple_of(value, 2) or not isinstance(value[0], str):
        return False
    if value[0] == "many":
        return is_look(value[1], len(row)) and number_with(one, row, value[1]) != number_with(other, goal, value[1])
    if value[0] != "point" or not is_between(value[1], 0, one.many - 1) or value[1] in row:
        return False
    images = points_of(bits_with(other, goal, look_of_fresh(one, row, value[1])))
    return all([(row + (value[1],), goal + (image,)) in tries for image in images])


def are_tries(one, other, value):
    """Whether the value is tries, of some rows of both webs."""
    if not isinstance(value, dict) or len(value) == 0:
        return False
    if not all([is_like_pair(one, other, rows) for rows in value]):
        return False
    return all([is_right_try(one, other, rows, told, value) for rows, told in value.items()])


def are_tries_of(one, row, other, goal, value):
    """Whether the value is tries, among them one of these two rows."""
    return are_tries(one, other, value) and (row, goal) in value
