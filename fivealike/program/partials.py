"""Partials of two webs, and the sums of the mixed program."""
from fivealike.plain import is_between, is_pair
from fivealike.web.bits import near_bits

FIRST = "first"
SECOND = "second"


class Couple:
    """Two webs of which partials are looked at."""

    def __init__(self, one, other):
        self.one = one
        self.other = other
        self.near = near_bits(one)
        self.goals = near_bits(other)

    def fits(self, partial, point, partner):
        """Whether the point is tied to those of the partial just as the partner to theirs, and has its colour."""
        if self.one.colours[point] != self.other.colours[partner]:
            return False
        near, goals = self.near[point], self.goals[partner]
        for here, there in partial:
            if near >> here & 1 != goals >> there & 1:
                return False
        return True

    def is_pair_of(self, value, least):
        """Whether the value is a pair of a point of the one web, at least this one, and of one of the other."""
        if not is_pair(value):
            return False
        return is_between(value[0], least, len(self.near) - 1) and is_between(value[1], 0, len(self.goals) - 1)

    def is_partial(self, value):
        """Whether the value is a partial, of however many pairs."""
        if not isinstance(value, tuple):
            return False
        least = 0
        taken = {}
        for at, pair in enumerate(value):
            if not self.is_pair_of(pair, least) or pair[1] in taken or not self.fits(value[:at], pair[0], pair[1]):
                return False
            least = pair[0] + 1
            taken[pair[1]] = True
        return True

    def longer(self, shorter):
        """The ascending list of the partials with a pair more than these, which are all of one length."""
        pairs = [(here, there) for here in range(len(self.near)) for there in range(len(self.goals))
                 if self.fits((), here, there)]
        found = []
        for partial in shorter:
            last = partial[len(partial) - 1][0] if partial != () else -1
            taken = partners_in(partial)
            for here, there in pairs:
                if here > last and there not in taken and self.fits(partial, here, there):
                    found.append(partial + ((here, there),))
        return found

    def partials_up_to(self, many):
        """The list of all partials of at most so many pairs, fewer pairs first, then ascending."""
        longest = [()]
        found = [()]
        for _ in range(many):
            longest = self.longer(longest)
            found.extend(longest)
        return found

    def is_sum(self, k, value):
        """Whether the value is a sum of the level k."""
        if not isinstance(value, tuple) or len(value) != 3 or not isinstance(value[0], str):
            return False
        word, partial, point = value
        if word not in (FIRST, SECOND) or not self.is_partial(partial) or len(partial) > k:
            return False
        return is_between(point, 0, len(self.near if word == FIRST else self.goals) - 1)

    def members(self, total):
        """The tuple of the members of this, which is a sum."""
        word, partial, point = total
        own, others = points_in(partial), partners_in(partial)
        if point in (own if word == FIRST else others):
            return (partial,)
        if word == FIRST:
            pairs = [(point, there) for there in range(len(self.goals)) if there not in others]
        else:
            pairs = [(here, point) for here in range(len(self.near)) if here not in own]
        return tuple([with_pair(partial, here, there) for here, there in pairs if self.fits(partial, here, there)])


def with_pair(partial, point, partner):
    """The partial with a pair more, whose point it lacks."""
    return tuple(sorted(partial + ((point, partner),)))


def without_pair(partial, at):
    """The partial without the pair with this index."""
    return partial[:at] + partial[at + 1:]


def points_in(partial):
    """The tuple of the points of the first web."""
    return tuple([here for here, _ in partial])


def partners_in(partial):
    """The tuple of the points of the second web."""
    return tuple([there for _, there in partial])
