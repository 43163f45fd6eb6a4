"""Names for the points of webs, refined by how often those near a point have each name.

A name is a place for bits, a multiple of STEP. The key of a point tells at the place of each name how many
points near it have this name, and 16 more if it has the name itself: enough for webs of at most 16 points.
"""
from fivealike.web.bits import bits_of

STEP = 5
SELF_BIT = 4


class Side:
    """A web whose points are told apart by names. It does not change."""

    def __init__(self, web):
        self.many = len(web)
        self.colours = web.colours
        self.ties = web.ties
        self.places = [STEP * at for at in range(self.many)]
        # The name for a point that is told apart from all others.
        self.fresh = STEP * self.many
        width = self.fresh + STEP
        self.mask = (1 << width) - 1
        self.starts = [width * point for point in range(self.many)]
        ones = [1 << start for start in self.starts]
        # What each point adds, at the place of its name, to the keys of all points, which stand one behind the other.
        self.shares = [one << SELF_BIT for one in ones]
        # For each point the bits of those near it.
        self.near = [0] * self.many
        for here, there in web.ties:
            self.shares[here] += ones[there]
            self.shares[there] += ones[here]
            self.near[here] += 1 << there
            self.near[there] += 1 << here

    def keys_of(self, names):
        """The list of the keys of all points."""
        whole = sum([share << name for share, name in zip(self.shares, names)])
        mask = self.mask
        return [whole >> start & mask for start in self.starts]

    def names_by(self, told):
        """A dict from numbers, told in their sequence, to names that have this sequence."""
        return dict(zip(told, self.places))

    def with_fresh(self, names, point):
        """The names with a fresh one for the point."""
        found = list(names)
        found[point] = self.fresh
        return found


def refined(side, names):
    """The pair of the rounds in which the names are refined as far as can be, and of the names then.

    A round is the pair of the sorted keys of all points and of a dict from them to their names.
    """
    rounds = []
    many = len(set(names))
    while True:
        keys = side.keys_of(names)
        told = sorted(keys)
        index = side.names_by(told)
        rounds.append((told, index))
        names = [index[key] for key in keys]
        if len(index) == many:
            return (rounds, names)
        many = len(index)


def refined_behind(side, names, point):
    """The same for names of which the point has a fresh one."""
    return refined(side, side.with_fresh(names, point))


def followed(side, names, rounds):
    """The names refined by rounds of another web; None if there are other keys here."""
    for told, index in rounds:
        keys = side.keys_of(names)
        if sorted(keys) != told:
            return None
        names = [index[key] for key in keys]
    return names


def trace_of(rounds):
    """What is seen in the rounds: no names of points."""
    return [told for told, _ in rounds]


def lots_of(names):
    """A dict from the names to the ascending lists of the points that have them."""
    found = {}
    for point, name in enumerate(names):
        found.setdefault(name, []).append(point)
    return found


def lot_to_part(side, names):
    """The fewest points of one name among which a choice matters, in refined names; None if there are none."""
    if len(set(names)) == side.many:
        return None
    sized = sorted([(len(lot), name, lot) for name, lot in lots_of(names).items() if len(lot) > 1])
    lots = [bits_of(lot) for _, _, lot in sized]
    for _, _, lot in sized:
        # If no choice matters, of each name all other points are tied to these, or none.
        near, others = side.near[lot[0]], ~(1 << lot[0])
        if not all([near & bits in (0, bits & others) for bits in lots]):
            return lot
    return None
