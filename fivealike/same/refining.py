"""Names for the points of webs, refined by how often those near a point have each name.

Names are integers from 0 to 31; what is told of at most 16 points and of one fresh name fits in.
"""
STEP = 5
FRESH = 31


def keys_of(near, names):
    """For each point a number that tells its name, and how often those near it have each name."""
    weights = [1 << STEP * (name + 1) for name in names]
    return [sum([weights[there] for there in those]) + name for those, name in zip(near, names)]


def indices_of(keys):
    """A dict from the keys to their places in their sequence."""
    return {key: at for at, key in enumerate(sorted(set(keys)))}


def refined(near, goals, names, others):
    """The names of the points of both webs, refined as far as can be; None if some comes unequally often."""
    many = len(set(names))
    while True:
        keys, other_keys = keys_of(near, names), keys_of(goals, others)
        if sorted(keys) != sorted(other_keys):
            return None
        index = indices_of(keys)
        names, others = [index[key] for key in keys], [index[key] for key in other_keys]
        if len(index) == many:
            return (names, others)
        many = len(index)


def with_fresh(names, point):
    """The names with a fresh one for the point."""
    return names[:point] + [FRESH] + names[point + 1:]


def trace_of(near, names, point):
    """What is seen when the names are refined after the point has a name of its own: no names of points."""
    own = with_fresh(names, point)
    many = 0
    trace = []
    while True:
        keys = keys_of(near, own)
        index = indices_of(keys)
        if len(index) == many:
            return tuple(trace)
        trace.append(tuple(sorted(keys)))
        many = len(index)
        own = [index[key] for key in keys]


def lots_of(names):
    """A dict from the names, ascending, to the ascending lists of the points that have them."""
    found = {name: [] for name in sorted(set(names))}
    for point, name in enumerate(names):
        found[name].append(point)
    return found


def is_plain(near, names, lots, name):
    """Whether each point of this name is tied to all or to none of the other points of each name."""
    first = lots[name][0]
    often = {}
    for there in near[first]:
        often[names[there]] = often.get(names[there], 0) + 1
    return all([often[told] == len(lots[told]) - (1 if told == name else 0) for told in often])


def lot_to_part(near, names):
    """The fewest points of one name among which a choice matters, in refined names; None if there are none."""
    lots = lots_of(names)
    sized = [(len(lots[name]), name) for name in lots if len(lots[name]) > 1]
    for _, name in sorted(sized):
        if not is_plain(near, names, lots, name):
            return lots[name]
    return None
