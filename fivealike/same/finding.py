"""The search for a map that shows that two webs are the same, by refined names of their points."""
from fivealike.same.refining import indices_of, lot_to_part, lots_of, refined, trace_of, with_fresh


def map_by_names(names, others):
    """The map that leads the points of each name, ascending, to those of this name."""
    lots = lots_of(others)
    taken = {name: 0 for name in lots}
    images = []
    for name in names:
        images.append(lots[name][taken[name]])
        taken[name] += 1
    return tuple(images)


def traces_of(near, names):
    """The list of the traces of all points."""
    return [trace_of(near, names, point) for point in range(len(names))]


def map_led(near, goals, names, others):
    """A map that leads points near one another to such, and each name to itself; None if there is none."""
    told = refined(near, goals, names, others)
    if told is None:
        return None
    names, others = told
    lot = lot_to_part(near, names)
    if lot is None:
        return map_by_names(names, others)
    point = lot[0]
    images = [image for image in range(len(others)) if others[image] == names[point]]
    found = map_led(near, goals, with_fresh(names, point), with_fresh(others, images[0]))
    if found is not None or len(images) == 1:
        return found
    # The first choice was wrong: so it is worth the time to look deeper at all points.
    traces, other_traces = traces_of(near, names), traces_of(goals, others)
    if sorted(traces) != sorted(other_traces):
        return None
    for image in images[1:]:
        if other_traces[image] == traces[point]:
            found = map_led(near, goals, with_fresh(names, point), with_fresh(others, image))
            if found is not None:
                return found
    return None


def first_names(webs, rows):
    """For each web the list of names that tell the colours of its points, and their places in its row."""
    keys = []
    for web, row in zip(webs, rows):
        place = {point: at for at, point in enumerate(row)}
        keys.append([(place.get(point, -1), web.colours[point]) for point in range(len(web))])
    members = []
    for own in keys:
        members.extend(own)
    index = indices_of(members)
    return [[index[key] for key in own] for own in keys]


def near_lists(web):
    """The list of the points near each point."""
    return [web.near(point) for point in range(len(web))]


def found_map(one, row, other, goal):
    """A map that shows that both webs are the same and leads the row to the goal; None if there is none."""
    if len(one) != len(other) or len(one.ties) != len(other.ties):
        return None
    names, others = first_names((one, other), (row, goal))
    if sorted(names) != sorted(others):
        return None
    return map_led(near_lists(one), near_lists(other), names, others)
