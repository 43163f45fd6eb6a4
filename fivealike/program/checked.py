"""Points of the mixed program: what is one, and what comes of rows with equal types."""
from fivealike.colour.fields import rows_of
from fivealike.linear import divisor_of
from fivealike.pattern.spaces import numbers_of_types
from fivealike.plain import is_ascending, is_integer, is_pair
from fivealike.program.partials import pairs_for


def is_form_of_point(one, other, k, value):
    """Whether the value is a pair of an integer from 1 on, and of a dict from partials to integers other than 0."""
    if not is_pair(value) or not is_integer(value[0]) or value[0] < 1 or not isinstance(value[1], dict):
        return False
    whole, told = value
    if not all([is_integer(number) and number != 0 for number in list(told.values())]):
        return False
    if not pairs_for(one, other).are_partials(list(told), k + 1):
        return False
    return told.get((), 0) == whole


def added_up(one, other, k, told):
    """A dict from partials to the list of what those with a pair more tell in all, for each point of both webs.

    It has all partials of at most k pairs that are told, and those for which there is something.
    """
    many = len(one)
    noughts = [0] * (many + len(other))
    found = {partial: noughts[:] for partial in told if len(partial) <= k}
    for partial, number in told.items():
        for at, (here, there) in enumerate(partial):
            left = partial[:at] + partial[at + 1:]
            sums = found.get(left)
            if sums is None:
                sums = found[left] = noughts[:]
            sums[here] += number
            sums[many + there] += number
    return found


def do_sums_hold(one, other, k, told):
    """Whether all sums of the level k hold, 0 being told of all partials that are not in the dict."""
    for partial, sums in added_up(one, other, k, told).items():
        if partial not in told:
            if any(sums):
                return False
        # No partial has two pairs for one of its own points: these have 0 in their place.
        elif sums.count(told[partial]) != len(sums) - 2 * len(partial):
            return False
    return True


def is_point_of(one, other, k, value):
    """Whether the value is a point of the program of these webs."""
    if not is_form_of_point(one, other, k, value) or not all([number > 0 for number in list(value[1].values())]):
        return False
    return do_sums_hold(one, other, k, value[1])


def is_signed_point_of(one, other, k, value):
    """Whether the value is a point, but for integers below 0."""
    return is_form_of_point(one, other, k, value) and do_sums_hold(one, other, k, value[1])


def number_of_row(many, row):
    """How many rows of this length are ahead of this one."""
    at = 0
    for point in row:
        at = at * many + point
    return at


def least_common(numbers):
    """The least common multiple of these numbers, which are from 1 on."""
    found = 1
    for number in numbers:
        found = found // divisor_of([found, number]) * number
    return found


def rows_by_type(many, length, types):
    """A dict from types to the lists of the rows of this length that have them, told the types of all."""
    found = {}
    for row, told in zip(rows_of(many, length), types):
        found.setdefault(told, []).append(row)
    return found


def point_by_types(one, other, k, fields, names):
    """The point of webs that are alike for ever by these stable names."""
    shares = {}
    for length in range(k + 2):
        types, goal_types = numbers_of_types(fields, names, length)
        goals = rows_by_type(len(other), length, goal_types)
        for row, told in zip(rows_of(len(one), length), types):
            # Rows of one type have one atom: with unlike points in the one all pairs are unlike.
            if is_ascending(row):
                lot = goals[told]
                share = len(lot)
                for goal in lot:
                    shares[tuple(zip(row, goal))] = share
    whole = least_common(sorted(set(list(shares.values()))))
    return (whole, {partial: whole // shares[partial] for partial in sorted(shares)})
