"""Points over those of a base: which there are, how they are tied, and what changes them."""
from itertools import combinations


def points_over(base):
    """The ascending list of the pairs of a point and of a lot of an even number of points near it."""
    found = []
    for point in range(len(base)):
        near = list(base.near(point))
        for many in range(0, len(near) + 1, 2):
            found.extend([(point, lot) for lot in combinations(near, many)])
    return sorted(found)


def point_number(base):
    """How many points there are over those of a base in which each point has some tie."""
    return sum([1 << degree - 1 for degree in base.degrees])


def places_over(base, above):
    """For each point of the base the list of the indices of the pairs over it."""
    found = [[] for _ in range(len(base))]
    for at, (point, _) in enumerate(above):
        found[point].append(at)
    return found


def ties_over(base, twists):
    """The ascending list of the ties of the twisted web, told the twisted ties of the base."""
    above = points_over(base)
    places = places_over(base, above)
    turned = {tie: True for tie in twists}
    found = []
    for here, there in base.ties:
        unlike = (here, there) in turned
        for low in places[here]:
            held = there in above[low][1]
            found.extend([(low, high) for high in places[there] if ((here in above[high][1]) != held) == unlike])
    return sorted(found)


def upward(base):
    """The list of the points of a base that hangs together, and a dict to the elder point each one hangs on."""
    order = [0]
    elder = {}
    at = 0
    while at < len(order):
        fresh = [there for there in base.near(order[at]) if there != 0 and there not in elder]
        for there in fresh:
            elder[there] = order[at]
        order.extend(fresh)
        at += 1
    return (order, elder)


def toggled(changes, here, there):
    """Puts a point into the lot of changes of another one, or takes it out if it is there."""
    if there in changes[here]:
        del changes[here][there]
    else:
        changes[here][there] = True


def changes_for(base, twists):
    """For each point a dict of an even number of points near it: the lots over it change by these.

    So just these ties, of an even number, are twisted once more.
    """
    changes = [{} for _ in range(len(base))]
    for here, there in twists:
        toggled(changes, here, there)
    order, elder = upward(base)
    for point in reversed(order):
        # An odd number is led on to the elder point; what both have changed at a tie is not seen.
        if len(changes[point]) & 1:
            toggled(changes, point, elder[point])
            toggled(changes, elder[point], point)
    return changes


def changed_map(base, twists):
    """The map of a twisted web onto the one with these ties, of an even number, twisted once more."""
    above = points_over(base)
    index = {pair: at for at, pair in enumerate(above)}
    changes = changes_for(base, twists)
    images = []
    for point, lot in above:
        left = [there for there in lot if there not in changes[point]]
        more = [there for there in changes[point] if there not in lot]
        images.append(index[point, tuple(sorted(left + more))])
    return tuple(images)


def bit_table(base, images):
    """A dict from pairs of a point of a pattern and one near its image to a bit for whether this is in the lot."""
    bits = {}
    for point, image in enumerate(images):
        for near in base.near(image):
            bits[point, near] = 2 << len(bits)
    return bits


def lifting_equations(base, twists, pattern, images, bits):
    """The equations for the maps of a pattern over a map into the base."""
    turned = {tie: True for tie in twists}
    found = []
    for point, image in enumerate(images):
        found.append(sum([bits[point, near] for near in base.near(image)]))
    for here, there in pattern.ties:
        tie = (min(images[here], images[there]), max(images[here], images[there]))
        unlike = 1 if tie in turned else 0
        # Both bits are unlike ones: they belong to two points of the pattern.
        found.append(bits[here, images[there]] + bits[there, images[here]] + unlike)
    return found
