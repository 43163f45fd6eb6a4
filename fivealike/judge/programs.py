"""Papers about the mixed program: its points, and multipliers that bar it."""
from fivealike.judge.graphs import are_rows_like
from fivealike.judge.plain import are_unlike, is_ascending, is_between, is_integer, is_tuple_of, without_place

WORDS = ("first", "second")


def points_in(partial):
    """The tuple of the points of the first web."""
    return tuple([here for here, _ in partial])


def images_in(partial):
    """The tuple of the points of the second web."""
    return tuple([there for _, there in partial])


def is_pair(one, other, value):
    """Whether the value is a pair of a point of the one graph and of one of the other one."""
    return is_tuple_of(value, 2) and is_between(value[0], 0, one.many - 1) and is_between(value[1], 0, other.many - 1)


def is_partial(one, other, most, value):
    """Whether the value is a partial of at most so many pairs."""
    if not isinstance(value, tuple) or len(value) > most or not all([is_pair(one, other, pair) for pair in value]):
        return False
    row, goal = points_in(value), images_in(value)
    return is_ascending(row) and are_unlike(goal) and are_rows_like(one, row, other, goal)


def are_integers(numbers):
    """Whether all of these are integers other than 0."""
    return all([is_integer(number) and number != 0 for number in numbers])


def is_sum(one, other, k, value):
    """Whether the value is a sum of the level k."""
    if not is_tuple_of(value, 3) or not isinstance(value[0], str) or value[0] not in WORDS:
        return False
    many = one.many if value[0] == "first" else other.many
    return is_partial(one, other, k, value[1]) and is_between(value[2], 0, many - 1)


def with_pair(partial, point, image):
    """The partial with a pair more."""
    return tuple(sorted(partial + ((point, image),)))


def members_of(one, other, total):
    """The list of the members of a sum."""
    word, partial, point = total
    row, goal = points_in(partial), images_in(partial)
    if point in (row if word == "first" else goal):
        return [partial]
    if word == "first":
        pairs = [(point, image) for image in range(other.many) if image not in goal]
    else:
        pairs = [(here, point) for here in range(one.many) if here not in row]
    found = [with_pair(partial, here, there) for here, there in pairs]
    return [longer for longer in found if are_rows_like(one, points_in(longer), other, images_in(longer))]


def sums_by_pairs(told):
    """The dict from sums to what the partials of the dict with one pair more are together for them."""
    found = {}
    for partial, number in told.items():
        for at, (here, there) in enumerate(partial):
            left = without_place(partial, at)
            for total in (("first", left, here), ("second", left, there)):
                found[total] = found.get(total, 0) + number
    return found


def is_summed(one, other, partial, sums):
    """Whether there is something in each sum of the partial for a point that it lacks."""
    row, goal = points_in(partial), images_in(partial)
    if not all([("first", partial, point) in sums for point in range(one.many) if point not in row]):
        return False
    return all([("second", partial, image) in sums for image in range(other.many) if image not in goal])


def is_point(one, other, k, value):
    """Whether the value is a point of the mixed program of level k."""
    if not is_tuple_of(value, 2) or not is_integer(value[0]) or not isinstance(value[1], dict):
        return False
    whole, told = value
    if not all([is_partial(one, other, k + 1, partial) for partial in told]):
        return False
    if not are_integers(list(told.values())) or not all([number > 0 for number in list(told.values())]):
        return False
    if whole < 1 or told.get((), 0) != whole:
        return False
    sums = sums_by_pairs(told)
    # A sum is right where it is what its partial is; a partial that is told has no empty sums.
    if not all([number == told.get(total[1], 0) for total, number in sums.items()]):
        return False
    return all([is_summed(one, other, partial, sums) for partial in told if len(partial) <= k])


def coefficients_of(one, other, value):
    """The dict from partials to the coefficients that the multipliers make."""
    found = {}
    for total, number in value.items():
        for member in members_of(one, other, total):
            found[member] = found.get(member, 0) + number
        found[total[1]] = found.get(total[1], 0) - number
    return found


def are_bars(one, other, k, value):
    """Whether the value is multipliers that refuse the partial without pairs."""
    if not isinstance(value, dict) or not all([is_sum(one, other, k, total) for total in value]):
        return False
    if not are_integers(list(value.values())):
        return False
    found = coefficients_of(one, other, value)
    return all([number >= 0 for number in list(found.values())]) and found.get((), 0) > 0
