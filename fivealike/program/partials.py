"""Partials of two webs, and the sums of the mixed program."""
from fivealike.plain import is_between
from fivealike.web.bits import bits_of, near_bits, points_of

FIRST = "first"
SECOND = "second"


class Couple:
    """Two webs of which partials are looked at."""

    def __init__(self, one, other):
        self.one = one
        self.other = other
        self.near = near_bits(one)
        self.goals = near_bits(other)

    def fits(self, partial, point, partner):
        """Whether the point is tied to those of the partial just as the partner to theirs, and has its colour."""
        if self.one.colours[point] != self.other.colours[partner]:
            return False
        near, goals = self.near[point], self.goals[partner]
        for here, there in partial:
            if near >> here & 1 != goals >> there & 1:
                return False
        return True

    def is_pair_of(self, value, least):
        """Whether the value is a pair of a point of the one web, at least this one, and of one of the other."""
        if not isinstance(value, tuple) or len(value) != 2:
            return False
        return is_between(value[0], least, len(self.near) - 1) and is_between(value[1], 0, len(self.goals) - 1)

    def is_partial(self, value):
        """Whether the value is a partial, of however many pairs."""
        if not isinstance(value, tuple):
            return False
        least = 0
        taken = 0
        for at, pair in enumerate(value):
            if not self.is_pair_of(pair, least) or taken >> pair[1] & 1 or not self.fits(value[:at], pair[0], pair[1]):
                return False
            least = pair[0] + 1
            taken = taken | 1 << pair[1]
        return True

    def is_sum(self, k, value):
        """Whether the value is a sum of the level k."""
        if not isinstance(value, tuple) or len(value) != 3 or not isinstance(value[0], str):
            return False
        word, partial, point = value
        if word not in (FIRST, SECOND) or not self.is_partial(partial) or len(partial) > k:
            return False
        return is_between(point, 0, len(self.near if word == FIRST else self.goals) - 1)

    def members(self, total):
        """The tuple of the members of this, which is a sum."""
        word, partial, point = total
        own, others = points_in(partial), partners_in(partial)
        if point in (own if word == FIRST else others):
            return (partial,)
        if word == FIRST:
            pairs = [(point, there) for there in range(len(self.goals)) if there not in others]
        else:
            pairs = [(here, point) for here in range(len(self.near)) if here not in own]
        return tuple([with_pair(partial, here, there) for here, there in pairs if self.fits(partial, here, there)])


class Pairs:
    """All pairs of points of two webs that can be in a partial or the like, and which can stand behind one another."""

    def __init__(self, images, tied, near, loose):
        # For each point the bits of those to which it can be led, and of those tied to it; for each point of
        # the other web those tied to it, and those to which points that are not tied to its own can be led.
        self.many = len(near)
        # Each pair has a bit, in their sequence.
        self.index = {(here, there): here * self.many + there for here, bits in enumerate(images)
                      for there in points_of(bits)}
        self.whole = self.spread(0, images)
        self.later = {}
        for (here, there), at in self.index.items():
            fitting = [images[point] & (near[there] if tied[here] >> point & 1 else loose[there])
                       for point in range(here + 1, len(images))]
            self.later[at] = self.spread(here + 1, fitting)

    def spread(self, least, images):
        """The bits of the pairs, told the bits of the partners for each point from the least one on."""
        found = 0
        for at, bits in enumerate(images):
            found = found | bits << (least + at) * self.many
        return found

    def are_partials(self, values, most):
        """Whether all values, which can be keys of a dict, are partials of at most so many pairs."""
        index, later = self.index, self.later
        for value in values:
            if not isinstance(value, tuple) or len(value) > most:
                return False
            left = self.whole
            for pair in value:
                at = index.get(pair)
                if at is None or not left >> at & 1:
                    return False
                here, there = pair
                if type(here) != int or type(there) != int:
                    return False
                left = left & later[at]
        return True

    def longer(self, shorter):
        """The ascending list of the partials with a pair more than these, told beside the bits of what fits behind."""
        found = []
        for partial, left in shorter:
            for at in points_of(left):
                found.append((partial + ((at // self.many, at % self.many),), left & self.later[at]))
        return found

    def partials_up_to(self, many):
        """The list of all partials of at most so many pairs, fewer pairs first, then ascending."""
        longest = [((), self.whole)]
        found = [()]
        for _ in range(many):
            longest = self.longer(longest)
            found.extend([partial for partial, _ in longest])
        return found


def pairs_for(one, other):
    """The pairs that can be in partials of these webs."""
    images = [bits_of([there for there, colour in enumerate(other.colours) if colour == own]) for own in one.colours]
    near = near_bits(other)
    return Pairs(images, near_bits(one), near, [~bits & ~(1 << there) for there, bits in enumerate(near)])


def with_pair(partial, point, partner):
    """The partial with a pair more, whose point it lacks."""
    return tuple(sorted(partial + ((point, partner),)))


def without_pair(partial, at):
    """The partial without the pair with this index."""
    return partial[:at] + partial[at + 1:]


def points_in(partial):
    """The tuple of the points of the first web."""
    return tuple([here for here, _ in partial])


def partners_in(partial):
    """The tuple of the points of the second web."""
    return tuple([there for _, there in partial])
