"""Lots of points as bits of an integer, for the search for bags or a bramble.

A flap is a lot that hangs together and has at most k + 1 neighbours.
"""
from fivealike.web.bits import how_many, points_of


def around(near, bits):
    """The bits of the points outside that are tied to one of these."""
    found = 0
    for point in points_of(bits):
        found = found | near[point]
    return found & ~bits


def piece_in(near, bits, point):
    """What hangs together with the point by ties within the bits."""
    piece = 1 << point
    grown = near[point] & bits & ~piece
    while grown:
        piece = piece | grown
        grown = around(near, grown) & bits & ~piece
    return piece


def pieces_in(near, bits):
    """The list of what hangs together within the bits."""
    found = []
    left = bits
    while left:
        piece = piece_in(near, bits, left.bit_length() - 1)
        found.append(piece)
        left = left & ~piece
    return found


def hangs_together(near, bits):
    """Whether ties within the bits, which are some, lead from each one to each other one."""
    return piece_in(near, bits, bits.bit_length() - 1) == bits


def hanging_lots(near):
    """A dict from all lots that hang together to the bits of the points around them."""
    found = {1 << point: bits for point, bits in enumerate(near)}
    waiting = list(found)
    while waiting != []:
        bits = waiting.pop()
        for point in points_of(found[bits]):
            more = bits | 1 << point
            if more not in found:
                found[more] = (found[bits] | near[point]) & ~more
                waiting.append(more)
    return found


def without_points(many):
    """A list with, for each point, a bit for each lot of so many points that lacks this point.

    The bit of a lot stands at the place that its own bits tell as a number.
    """
    found = []
    for point in range(many):
        lacking = (1 << (1 << point)) - 1
        width = 2 << point
        while width < 1 << many:
            lacking = lacking | lacking << width
            width = width * 2
        found.append(lacking)
    return found


def holding(many, lots):
    """A bit for each lot of so many points, which tells whether one of the lots lies within."""
    held = 0
    for lot in lots:
        held = held | 1 << lot
    for point, lacking in enumerate(without_points(many)):
        held = held | (held & lacking) << (1 << point)
    return held


class Flaps:
    """All flaps of a web for some k, lesser ones ahead, and which of them are cleared."""

    def __init__(self, tied, k):
        self.tied = tied
        self.k = k
        self.hanging = hanging_lots(tied)
        # For each flap the bits of its neighbours.
        self.around = {bits: rim for bits, rim in self.hanging.items() if how_many(rim) <= k + 1}
        sized = sorted([(how_many(bits), bits) for bits in self.around])
        self.order = [bits for _, bits in sized]
        # Those with more neighbours than k have no point that can be taken first.
        self.points = {bits: points_of(bits) for bits, rim in self.around.items() if how_many(rim) <= k}
        self.cleared = {}
        self.history = []
        self.clear_what_can_be()

    def has_step(self, bits):
        """Whether some point of a flap can be taken first, as it leaves just cleared pieces."""
        for point in self.points.get(bits, ()):
            left = bits & ~(1 << point)
            if left in self.cleared or left not in self.hanging and self.are_cleared(pieces_in(self.tied, left)):
                return True
        return False

    def count_cleared(self, bits):
        """Counts a flap among the cleared ones."""
        if bits not in self.cleared:
            self.cleared[bits] = True
            self.history.append(bits)

    def clear_what_can_be(self):
        """Clears all flaps that are cleared because lesser ones are."""
        # Lesser flaps stand ahead, so one run through the order is enough.
        for bits in self.order:
            if bits not in self.cleared and self.has_step(bits):
                self.count_cleared(bits)

    def are_cleared(self, lots):
        """Whether all of these flaps are cleared."""
        return all([bits in self.cleared for bits in lots])

    def go_back(self, many):
        """Takes back what was cleared behind the first so many."""
        while len(self.history) > many:
            bits = self.history.pop()
            del self.cleared[bits]

    def give_up(self, lots):
        """Counts these and all flaps within them as cleared, and what follows from this."""
        held = holding(len(self.tied), [((1 << len(self.tied)) - 1) & ~lot for lot in lots])
        whole = (1 << len(self.tied)) - 1
        for bits in self.order:
            # A flap is within a lot if what the lot lacks is within what the flap lacks.
            if held >> (whole & ~bits) & 1:
                self.count_cleared(bits)
        self.clear_what_can_be()

    def open_order(self):
        """The list of the flaps that are not cleared, lesser ones ahead."""
        return [bits for bits in self.order if bits not in self.cleared]

    def not_touched(self, bits):
        """The flaps that are not cleared and do not touch this one."""
        hall = bits | self.around[bits]
        return [lot for lot in self.open_order() if lot & hall == 0]
