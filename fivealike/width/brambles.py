"""The search for a bramble where a web has no bags of a width."""
from fivealike.web.bits import points_of
from fivealike.width.flaps import holding


def first_strife(flaps, least):
    """The index of the first flap from the least one on with one that it does not touch, or None."""
    whole = (1 << len(flaps.tied)) - 1
    held = holding(len(flaps.tied), flaps.open_order())
    for at in range(least, len(flaps.order)):
        bits = flaps.order[at]
        if bits not in flaps.cleared and held >> (whole & ~bits & ~flaps.around[bits]) & 1:
            return at
    return None


def settle(flaps, whole):
    """Gives up flaps until all others touch two by two, and the whole is not given up.

    Of two flaps that do not touch, a bramble has at most one within it; so one of them
    can be given up. If this gives up a piece that holds the bramble, the other choice is right.
    """
    # Each choice is kept with what was cleared ahead of it, to come back to its other side.
    choices = []
    at = first_strife(flaps, 0)
    while at is not None:
        choices.append((at, len(flaps.history)))
        flaps.give_up([flaps.order[at]])
        while flaps.are_cleared(whole):
            at, many = choices.pop()
            flaps.go_back(many)
            flaps.give_up(flaps.not_touched(flaps.order[at]))
        at = first_strife(flaps, at)


def least_lots(flaps):
    """The flaps that are not cleared and have no other such within them."""
    found = flaps.open_order()
    held = holding(len(flaps.tied), found)
    return [bits for bits in found if not any([held >> (bits & ~(1 << point)) & 1 for point in points_of(bits)])]
