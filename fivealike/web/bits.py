"""Points as the bits of an integer."""


def near_bits(web):
    """A list with, for each point, the bits of the points tied to it."""
    near = [0] * len(web)
    for here, there in web.ties:
        near[here] = near[here] | 1 << there
        near[there] = near[there] | 1 << here
    return near


def points_of(bits):
    """The ascending tuple of the points whose bits are set."""
    points = []
    left = bits
    while left:
        low = left & -left
        points.append(low.bit_length() - 1)
        left = left ^ low
    return tuple(points)


def bits_of(points):
    """The bits of these points, each of which comes once."""
    return sum([1 << point for point in points])


def how_many(bits):
    """How many bits are set."""
    return f"{bits:b}".count("1")
