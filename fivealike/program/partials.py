"""Partials of two webs, and the sums of the mixed program."""
from fivealike.plain import is_between, is_pair
from fivealike.web.bits import near_bits
from fivealike.web.webs import is_lot

FIRST = "first"
SECOND = "second"


def fits(near, partial, point, partner):
    """Whether the point is tied to those of the partial just as the partner to theirs.

    `near` has for both webs what is near to each point, in bits.
    """
    one, other = near[0][point], near[1][partner]
    return all([one >> here & 1 == other >> there & 1 for here, there in partial])


def is_list_of_pairs(one, other, value):
    """Whether the value is a tuple of pairs of a point of the one and of one of the other web."""
    if not isinstance(value, tuple) or not all([is_pair(pair) for pair in value]):
        return False
    return all([is_between(here, 0, len(one) - 1) and is_between(there, 0, len(other) - 1) for here, there in value])


def is_partial_of(one, other, value):
    """Whether the value is a partial of these webs, of however many pairs."""
    if not is_list_of_pairs(one, other, value) or not is_lot(one, tuple([here for here, _ in value])):
        return False
    if len(set([there for _, there in value])) != len(value):
        return False
    if any([one.colours[here] != other.colours[there] for here, there in value]):
        return False
    near = (near_bits(one), near_bits(other))
    return all([fits(near, value[:at], value[at][0], value[at][1]) for at in range(len(value))])


def next_partials(one, other, shorter):
    """The ascending list of the partials with a pair more than these, which are all of some length."""
    near = (near_bits(one), near_bits(other))
    pairs = [(here, there) for here in range(len(one)) for there in range(len(other))
             if one.colours[here] == other.colours[there]]
    found = []
    for partial in shorter:
        last = partial[len(partial) - 1][0] if partial != () else -1
        taken = [there for _, there in partial]
        for here, there in pairs:
            if here > last and there not in taken and fits(near, partial, here, there):
                found.append(partial + ((here, there),))
    return found


def partials_up_to(one, other, many):
    """The list of all partials of at most so many pairs, fewer pairs first, then ascending."""
    longest = [()]
    found = [()]
    for _ in range(many):
        longest = next_partials(one, other, longest)
        found.extend(longest)
    return found


def with_pair(partial, point, partner):
    """The partial with a pair more, whose point it lacks."""
    return tuple(sorted(partial + ((point, partner),)))


def without_pair(partial, at):
    """The partial without the pair with this index."""
    return partial[:at] + partial[at + 1:]


def points_in(partial):
    """The tuple of the points of the first web."""
    return tuple([here for here, _ in partial])


def partners_in(partial):
    """The tuple of the points of the second web."""
    return tuple([there for _, there in partial])


def is_sum_of(one, other, k, value):
    """Whether the value is a sum of the level k."""
    if not isinstance(value, tuple) or len(value) != 3 or not isinstance(value[0], str):
        return False
    word, partial, point = value
    if word not in (FIRST, SECOND) or not is_partial_of(one, other, partial) or len(partial) > k:
        return False
    return is_between(point, 0, len(one if word == FIRST else other) - 1)


def members_of(one, other, near, total):
    """The tuple of the members of this, which is a sum."""
    word, partial, point = total
    own, others = points_in(partial), partners_in(partial)
    if point in (own if word == FIRST else others):
        return (partial,)
    found = []
    for there in range(len(other if word == FIRST else one)):
        pair = (point, there) if word == FIRST else (there, point)
        if pair[0] not in own and pair[1] not in others and one.colours[pair[0]] == other.colours[pair[1]]:
            if fits(near, partial, pair[0], pair[1]):
                found.append(with_pair(partial, pair[0], pair[1]))
    return tuple(found)
