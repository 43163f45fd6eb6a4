"""Papers about the width of a web: bags and brambles."""
from fivealike.judge.graphs import bits_of, points_of
from fivealike.judge.plain import is_between, is_lot, is_tuple_of

MOST_BAGS = 100


def comes_up(above, at):
    """Whether one comes up from this bag to one without a bag above."""
    here = at
    for _ in above:
        if above[here] is None:
            return True
        here = above[here]
    return False


def are_above(value, many):
    """Whether the value tells for each of so many bags one above it, for just one of them none."""
    if not is_tuple_of(value, many) or not all([at is None or is_between(at, 0, many - 1) for at in value]):
        return False
    return len([at for at in value if at is None]) == 1 and all([comes_up(value, at) for at in range(many)])


def top_number(bags, above, point):
    """How many bags with the point are without a bag above, or have one above that lacks it."""
    held = [at for at, bag in enumerate(bags) if point in bag]
    return len([at for at in held if above[at] is None or point not in bags[above[at]]])


def are_bags(graph, most, value):
    """Whether the value is bags of at most so many points each."""
    if not is_tuple_of(value, 2) or not isinstance(value[0], tuple) or not 1 <= len(value[0]) <= MOST_BAGS:
        return False
    bags, above = value
    if not all([is_lot(bag, graph.many) and len(bag) <= most for bag in bags]) or not are_above(above, len(bags)):
        return False
    if not all([any([here in bag and there in bag for bag in bags]) for here, there in graph.ties]):
        return False
    return all([top_number(bags, above, point) == 1 for point in range(graph.many)])


def around(graph, bits):
    """The bits of the points that are tied to one of these."""
    found = 0
    for point in points_of(bits):
        found = found | graph.near[point]
    return found


def hangs_together(graph, bits):
    """Whether the bits are some, and ties between them lead from each one to each other one."""
    piece = bits & -bits
    grown = piece
    while grown:
        grown = around(graph, grown) & bits & ~piece
        piece = piece | grown
    return piece == bits and bits != 0


def are_within(many, lots):
    """A bit for each lot of so many points, told by its own bits as a number: whether one of the lots lies in it."""
    held = 0
    for lot in lots:
        held = held | 1 << lot
    for point in range(many):
        step = 1 << point
        # The bits of the lots that lack this point.
        lacking = (1 << step) - 1
        for at in range(point + 1, many):
            lacking = lacking | lacking << (1 << at)
        held = held | (held & lacking) << step
    return held


def lots_of(many, most):
    """The list of the bits of all lots of so many points, out of this many."""
    found = [(0, 0)]
    for _ in range(most):
        found = [(bits | 1 << point, point + 1) for bits, least in found for point in range(least, many)]
    return [bits for bits, _ in found]


def is_bramble(graph, k, value):
    """Whether the value is a bramble above k."""
    if not isinstance(value, tuple) or not all([is_lot(lot, graph.many) for lot in value]):
        return False
    lots = sorted(set([bits_of(lot) for lot in value]))
    if not all([hangs_together(graph, lot) for lot in lots]):
        return False
    whole = (1 << graph.many) - 1
    held = are_within(graph.many, lots)
    # Two lots touch unless the one lies outside the other one and all that is tied to it.
    if any([held >> (whole & ~lot & ~around(graph, lot)) & 1 for lot in lots]):
        return False
    # Points meet all lots unless some lot lies outside; more points meet what fewer do.
    return all([held >> (whole & ~some) & 1 for some in lots_of(graph.many, min(k + 1, graph.many))])
