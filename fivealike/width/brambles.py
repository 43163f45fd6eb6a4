"""The search for a bramble where a web has no bags of a width."""


def first_strife(flaps, least):
    """The index of the first flap from the least one on with one that it does not touch, or None."""
    for at in range(least, len(flaps.order)):
        bits = flaps.order[at]
        if bits not in flaps.cleared and flaps.not_touched(bits) != []:
            return at
    return None


def settle(flaps, whole):
    """Gives up flaps until all others touch two by two, and the whole is not given up.

    Of two flaps that do not touch, a bramble has at most one within it; so one of them
    can be given up. If this gives up a piece that holds the bramble, the other choice is right.
    """
    # Each choice is kept with what was cleared ahead of it, to come back to its other side.
    choices = []
    at = first_strife(flaps, 0)
    while at is not None:
        choices.append((at, len(flaps.history)))
        flaps.give_up([flaps.order[at]])
        while flaps.are_cleared(whole):
            at, many = choices.pop()
            flaps.go_back(many)
            flaps.give_up(flaps.not_touched(flaps.order[at]))
        at = first_strife(flaps, at)


def least_lots(flaps):
    """The flaps that are not cleared and have no other such within them."""
    found = []
    for bits in flaps.order:
        if bits not in flaps.cleared and not any([lot & ~bits == 0 for lot in found]):
            found.append(bits)
    return found
