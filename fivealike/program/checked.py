"""Points of the mixed program: what is one, and what comes of rows with equal types."""
from fivealike.linear import divisor_of
from fivealike.pattern.spaces import numbers_of_types
from fivealike.plain import is_integer, is_pair
from fivealike.program.partials import Couple, partners_in, points_in, without_pair


def is_form_of_point(one, other, k, value):
    """Whether the value is a pair of an integer from 1 on, and of a dict from partials to integers other than 0."""
    if not is_pair(value) or not is_integer(value[0]) or value[0] < 1 or not isinstance(value[1], dict):
        return False
    whole, told = value
    if not all([is_integer(number) and number != 0 for number in list(told.values())]):
        return False
    couple = Couple(one, other)
    if not all([couple.is_partial(partial) and len(partial) <= k + 1 for partial in told]):
        return False
    return told.get((), 0) == whole


def added_up(told):
    """The pair of the dicts from pairs of a partial and a point to what the partials with a pair for it tell in all."""
    first = {}
    second = {}
    for partial, number in told.items():
        for at, (here, there) in enumerate(partial):
            left = without_pair(partial, at)
            first[left, here] = first.get((left, here), 0) + number
            second[left, there] = second.get((left, there), 0) + number
    return (first, second)


def do_sums_hold(one, other, k, told):
    """Whether all sums of the level k hold, 0 being told of all partials that are not in the dict."""
    first, second = added_up(told)
    for sums in (first, second):
        if any([number != told.get(partial, 0) for (partial, _), number in sums.items()]):
            return False
    # Now it is left to see that a sum without members that are told is 0.
    for partial in told:
        if len(partial) <= k:
            own, others = points_in(partial), partners_in(partial)
            if not all([(partial, point) in first for point in range(len(one)) if point not in own]):
                return False
            if not all([(partial, point) in second for point in range(len(other)) if point not in others]):
                return False
    return True


def is_point_of(one, other, k, value):
    """Whether the value is a point of the program of these webs."""
    if not is_form_of_point(one, other, k, value) or not all([number > 0 for number in list(value[1].values())]):
        return False
    return do_sums_hold(one, other, k, value[1])


def is_signed_point_of(one, other, k, value):
    """Whether the value is a point, but for integers below 0."""
    return is_form_of_point(one, other, k, value) and do_sums_hold(one, other, k, value[1])


def number_of_row(many, row):
    """How many rows of this length are ahead of this one."""
    at = 0
    for point in row:
        at = at * many + point
    return at


def least_common(numbers):
    """The least common multiple of these numbers, which are from 1 on."""
    found = 1
    for number in numbers:
        found = found // divisor_of([found, number]) * number
    return found


def shares_of(types):
    """A dict from the types of rows of the second web to how many rows there have it."""
    often = {}
    for told in types[1]:
        often[told] = often.get(told, 0) + 1
    return often


def point_by_types(one, other, k, fields, names):
    """The point of webs that are alike for ever by these stable names."""
    types = [numbers_of_types(fields, names, length) for length in range(k + 2)]
    often = [shares_of(own) for own in types]
    shares = {}
    for partial in Couple(one, other).partials_up_to(k + 1):
        length = len(partial)
        told = types[length][0][number_of_row(len(one), points_in(partial))]
        if told == types[length][1][number_of_row(len(other), partners_in(partial))]:
            shares[partial] = often[length][told]
    whole = least_common(list(shares.values()))
    return (whole, {partial: whole // shares[partial] for partial in sorted(shares)})
