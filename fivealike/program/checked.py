"""Points of the mixed program: what is one, and what comes of rows with equal types."""
from fivealike.linear import divisor_of
from fivealike.pattern.spaces import numbers_of_types
from fivealike.plain import is_integer, is_pair
from fivealike.program.partials import pairs_for


def is_form_of_point(one, other, k, value):
    """Whether the value is a pair of an integer from 1 on, and of a dict from partials to integers other than 0."""
    if not is_pair(value) or not is_integer(value[0]) or value[0] < 1 or not isinstance(value[1], dict):
        return False
    whole, told = value
    if not all([is_integer(number) and number != 0 for number in list(told.values())]):
        return False
    if not pairs_for(one, other).are_partials(list(told), k + 1):
        return False
    return told.get((), 0) == whole


def added_up(one, other, k, told):
    """A dict from partials to the list of what those with a pair more tell in all, for each point of both webs.

    It has all partials of at most k pairs that are told, and those for which there is something.
    """
    many = len(one)
    noughts = [0] * (many + len(other))
    found = {partial: noughts[:] for partial in told if len(partial) <= k}
    for partial, number in told.items():
        for at, (here, there) in enumerate(partial):
            left = partial[:at] + partial[at + 1:]
            sums = found.get(left)
            if sums is None:
                sums = found[left] = noughts[:]
            sums[here] += number
            sums[many + there] += number
    return found


def do_sums_hold(one, other, k, told):
    """Whether all sums of the level k hold, 0 being told of all partials that are not in the dict."""
    for partial, sums in added_up(one, other, k, told).items():
        if partial not in told:
            if any(sums):
                return False
        # No partial has two pairs for one of its own points: these have 0 in their place.
        elif sums.count(told[partial]) != len(sums) - 2 * len(partial):
            return False
    return True


def is_point_of(one, other, k, value):
    """Whether the value is a point of the program of these webs."""
    if not is_form_of_point(one, other, k, value) or not all([number > 0 for number in list(value[1].values())]):
        return False
    return do_sums_hold(one, other, k, value[1])


def is_signed_point_of(one, other, k, value):
    """Whether the value is a point, but for integers below 0."""
    return is_form_of_point(one, other, k, value) and do_sums_hold(one, other, k, value[1])


def number_of_row(many, row):
    """How many rows of this length are ahead of this one."""
    at = 0
    for point in row:
        at = at * many + point
    return at


def least_common(numbers):
    """The least common multiple of these numbers, which are from 1 on."""
    found = 1
    for number in numbers:
        found = found // divisor_of([found, number]) * number
    return found


class Shares:
    """All partials of at most k + 1 pairs whose rows have one type, each with how many rows there are of this type."""

    def __init__(self, one, other, k, fields, names):
        self.many = len(one)
        self.others = len(other)
        self.most = k + 1
        # For each length the types of the rows of the one web; how often each comes in the other web; and
        # by a type and the number of a row without its last point there all points that can be this.
        self.types = []
        self.often = []
        self.last = []
        for length in range(k + 2):
            types, goals = numbers_of_types(fields, names, length)
            self.types.append(types)
            self.often.append([0] * (max(types + goals, default=0) + 1))
            self.last.append({})
            for at, told in enumerate(goals):
                self.often[length][told] += 1
                self.last[length].setdefault((told, at // self.others if length > 0 else 0), []).append(at)
        self.found = {(): 1}
        self.grow((), -1, 0, 0)

    def grow(self, partial, least, row, goal):
        """Finds all partials that begin with this one, in ascending sequence, told the numbers of its rows."""
        length = len(partial) + 1
        types, often, last = self.types[length], self.often[length], self.last[length]
        for point in range(least + 1, self.many):
            at = row * self.many + point
            # Rows of one type have one atom: with unlike points in the one all pairs are unlike.
            for there in last.get((types[at], goal), ()):
                longer = partial + ((point, there - goal * self.others),)
                self.found[longer] = often[types[at]]
                if length < self.most:
                    self.grow(longer, point, at, there)


def point_by_types(one, other, k, fields, names):
    """The point of webs that are alike for ever by these stable names."""
    shares = Shares(one, other, k, fields, names).found
    whole = least_common(sorted(set(list(shares.values()))))
    return (whole, {partial: whole // share for partial, share in shares.items()})
