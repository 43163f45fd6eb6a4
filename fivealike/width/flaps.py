"""Lots of points as bits of an integer, for the search for bags or a bramble.

A flap is a lot that hangs together and has at most k + 1 neighbours.
"""


def near_bits(web):
    """A list with, for each point, the bits of the points tied to it."""
    return [sum([1 << there for there in web.near(point)]) for point in range(len(web))]


def points_of(bits):
    """The ascending tuple of the points whose bits are set."""
    return tuple([point for point in range(bits.bit_length()) if bits >> point & 1])


def bits_of(points):
    """The bits of these points, each of which comes once."""
    return sum([1 << point for point in points])


def how_many(bits):
    """How many bits are set."""
    return len(points_of(bits))


def around(near, bits):
    """The bits of the points outside that are tied to one of these."""
    found = 0
    for point in points_of(bits):
        found = found | near[point]
    return found & ~bits


def piece_in(near, bits, point):
    """What hangs together with the point by ties within the bits."""
    piece = 1 << point
    grown = around(near, piece) & bits
    while grown:
        piece = piece | grown
        grown = around(near, piece) & bits
    return piece


def pieces_in(near, bits):
    """The list of what hangs together within the bits."""
    found = []
    left = bits
    while left:
        piece = piece_in(near, bits, left.bit_length() - 1)
        found.append(piece)
        left = left & ~piece
    return found


def hangs_together(near, bits):
    """Whether ties within the bits, which are some, lead from each one to each other one."""
    return piece_in(near, bits, bits.bit_length() - 1) == bits


def hall_of(near, bits):
    """The bits themselves, and those of all points tied to one of them."""
    return bits | around(near, bits)


def holding(many, lots):
    """A list that tells for all bits of so many points whether one of the lots lies within."""
    held = [False] * (1 << many)
    for lot in lots:
        held[lot] = True
    for bits in range(1 << many):
        if not held[bits]:
            held[bits] = any([held[bits & ~(1 << point)] for point in points_of(bits)])
    return held


class Flaps:
    """All flaps of a web for some k, lesser ones ahead, and which of them are cleared."""

    def __init__(self, tied, k):
        self.tied = tied
        self.k = k
        lots = [bits for bits in range(1, 1 << len(tied)) if hangs_together(tied, bits)]
        flaps = [bits for bits in lots if how_many(around(tied, bits)) <= k + 1]
        ordered = sorted([(how_many(bits), bits) for bits in flaps])
        self.order = [bits for _, bits in ordered]
        self.halls = {bits: hall_of(tied, bits) for bits in self.order}
        self.steps = {bits: self.steps_of(bits) for bits in self.order}
        self.cleared = {}
        self.history = []
        self.clear_what_can_be()

    def steps_of(self, bits):
        """Pairs of a point that may be taken first and of the pieces that it leaves."""
        if how_many(around(self.tied, bits)) > self.k:
            return []
        return [(point, pieces_in(self.tied, bits & ~(1 << point))) for point in points_of(bits)]

    def first_step(self, bits):
        """The first step that leaves just cleared pieces, None if there is none."""
        for point, left in self.steps[bits]:
            if all([piece in self.cleared for piece in left]):
                return (point, left)
        return None

    def count_cleared(self, bits):
        """Counts a flap among the cleared ones."""
        if bits not in self.cleared:
            self.cleared[bits] = True
            self.history.append(bits)

    def clear_what_can_be(self):
        """Clears all flaps that are cleared because lesser ones are."""
        # Lesser flaps stand ahead, so one run through the order is enough.
        for bits in self.order:
            if bits not in self.cleared and self.first_step(bits) is not None:
                self.count_cleared(bits)

    def are_cleared(self, lots):
        """Whether all of these flaps are cleared."""
        return all([bits in self.cleared for bits in lots])

    def go_back(self, many):
        """Takes back what was cleared behind the first so many."""
        while len(self.history) > many:
            bits = self.history.pop()
            del self.cleared[bits]

    def give_up(self, lots):
        """Counts these and all flaps within them as cleared, and what follows from this."""
        for bits in self.order:
            if any([bits & ~lot == 0 for lot in lots]):
                self.count_cleared(bits)
        self.clear_what_can_be()

    def not_touched(self, bits):
        """The flaps that are not cleared and do not touch this one."""
        hall = self.halls[bits]
        return [lot for lot in self.order if lot & hall == 0 and lot not in self.cleared]
