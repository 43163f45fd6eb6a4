"""The least round from which on two webs are apart, found without names for all rows at all rounds.

The name of the empty row at a round hangs on those of the rows of one point at the round below, and so
on: so at the round t + k just on those of the rows of k points at the round t.
"""
from fivealike.colour.fields import fields_of
from fivealike.colour.names import long_behind

# Up to this round webs are apart for k = 1, 2 and 3, if they are so for one.
LAST_COMMON = 2


def numbered(things):
    """For each of both webs the list of small numbers of its things, equal ones for equal things."""
    known = {}
    return [[known.setdefault(thing, len(known)) for thing in own] for own in things]


def are_alike_many(numbers):
    """Whether each number comes equally often in both webs."""
    return sorted(numbers[0]) == sorted(numbers[1])


def points_refined(webs, numbers):
    """The numbers of the points of both webs, a round later, where those of one round come equally often."""
    return numbered([[(number, tuple(sorted([own[there] for there in web.near(point)])))
                      for point, number in enumerate(own)] for web, own in zip(webs, numbers)])


def least_of_points(webs, depth):
    """The least round up to the depth for k = 1, None if there is none."""
    numbers = [list(web.colours) for web in webs]
    at = 0
    many = 0
    while depth is None or at < depth:
        at += 1
        if not are_alike_many(numbers):
            return at
        found = len(set(numbers[0]))
        if found == many:
            return None
        many = found
        numbers = points_refined(webs, numbers)
    return None


def first_numbers(fields):
    """The numbers of the rows of k points of both webs at the round 0."""
    k = fields[0].k
    return numbered([list(zip(field.colours[k], field.patterns[k])) for field in fields])


def rows_refined(fields, numbers):
    """The numbers of the rows of k points of both webs, a round later."""
    base = max(numbers[0]) + 1
    things = []
    for field, own in zip(fields, numbers):
        things.append(list(zip(own, long_behind(field, own, base, [True] * len(own)))))
    return numbered(things)


def do_ends_agree(fields, numbers):
    """Whether both empty rows have one name, told the numbers of the rows of k points k rounds below."""
    many = fields[0].many
    ends = numbers
    for _ in range(fields[0].k):
        ends = numbered([[tuple(sorted(own[at:at + many])) for at in range(0, len(own), many)] for own in ends])
    return ends[0] == ends[1]


def least_of_rows(webs, k, depth):
    """The least round from k + 1 on, up to the depth, for k from 2 on, of webs that are alike to the round k."""
    fields = fields_of(webs, k)
    numbers = first_numbers(fields)
    at = k
    while depth is None or at < depth:
        at += 1
        later = rows_refined(fields, numbers)
        if not do_ends_agree(fields, later):
            return at
        if len(set(later[0])) == len(set(numbers[0])):
            return None
        numbers = later
    return None


def least_between(one, other, k, depth):
    """The least round up to the depth from which on these webs are apart, None if there is none."""
    if one == other:
        return None
    webs = (one, other)
    if k == 1:
        return least_of_points(webs, depth)
    least = least_of_points(webs, LAST_COMMON if depth is None else min(depth, LAST_COMMON))
    # For each k the round k + 1 hangs on the atoms of rows of k + 1 points alone.
    if least is None and k > 2:
        least = least_of_rows(webs, 2, 3 if depth is None else min(depth, 3))
    return least_of_rows(webs, k, depth) if least is None else least


def least_for_all(one, other):
    """The tuple of the least rounds for k = 1, 2 and 3."""
    first = least_between(one, other, 1, None)
    if one == other or first is not None and first <= LAST_COMMON:
        return (first, first, first)
    second = least_of_rows((one, other), 2, None)
    return (first, second, second if second == 3 else least_of_rows((one, other), 3, None))
