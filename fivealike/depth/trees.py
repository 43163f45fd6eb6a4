"""Forests of patterns: what is one, and the ways down in it."""
from fivealike.plain import are_between, is_between, is_pair


def ways_up(above):
    """For each point the list of itself and of those above it by steps, None if one is above itself."""
    found = []
    for point in range(len(above)):
        way = [point]
        while above[way[-1]] is not None and len(way) <= len(above):
            way.append(above[way[-1]])
        if len(way) > len(above):
            return None
        found.append(way)
    return found


def is_seen(way, upper, labels):
    """Whether a point is above the first one of the way, and none on the way to it has its label."""
    if upper not in way:
        return False
    return all([labels[point] != labels[upper] for point in way[:way.index(upper)]])


def are_points_above(pattern, value):
    """Whether the value has for each point of the pattern one that can be above it, or None."""
    if not isinstance(value, tuple) or len(value) != len(pattern):
        return False
    return all([upper is None or is_between(upper, 0, len(pattern) - 1) for upper in value])


def is_forest_of(pattern, k, value):
    """Whether the value is a forest of the pattern for k."""
    if not is_pair(value) or not are_points_above(pattern, value[0]):
        return False
    above, labels = value
    if not are_between(labels, 0, k) or len(labels) != len(pattern):
        return False
    ways = ways_up(above)
    if ways is None:
        return False
    return all([is_seen(ways[here], there, labels) or is_seen(ways[there], here, labels)
                for here, there in pattern.ties])


def depth_of(above):
    """The most points that are one above another."""
    return max([len(way) for way in ways_up(above)], default=0)


def below_of(above):
    """For each point the list of those right below it."""
    found = [[] for _ in above]
    for point, upper in enumerate(above):
        if upper is not None:
            found[upper].append(point)
    return found


def lower_first(above):
    """The list of all points, each one ahead of those above it."""
    sized = sorted([(-len(way), way[0]) for way in ways_up(above)])
    return [point for _, point in sized]
