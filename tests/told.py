"""The rounds of rows by the words of the document, for tests to compare with."""
import itertools


def atom(web, row):
    pairs = list(itertools.combinations(range(len(row)), 2))
    return (tuple([web.colours[point] for point in row]),
            tuple([(i, j) for i, j in pairs if row[i] == row[j]]),
            tuple([(i, j) for i, j in pairs if (min(row[i], row[j]), max(row[i], row[j])) in web.ties]))


def rows(web, most):
    """All rows of at most so many points, shorter ones ahead, then ascending."""
    return [row for many in range(most + 1) for row in itertools.product(range(len(web)), repeat=many)]


def cuts(row):
    return [row[:place] + row[place + 1:] for place in range(len(row))]


def behind(web, k, names, row):
    """What is counted behind a row, as a tuple of pairs."""
    longer = [row + (point,) for point in range(len(web))]
    if len(row) < k:
        things = [names[far] for far in longer]
    else:
        things = [(atom(web, far), tuple([names[cut] for cut in cuts(far)])) for far in longer]
    return tuple([(thing, things.count(thing)) for thing in sorted(set(things))])


def marks(webs, k, depth):
    """For each web the dict from rows to marks at the round."""
    if depth == 0:
        return [{row: atom(web, row) for row in rows(web, k)} for web in webs]
    ahead = names(webs, k, depth - 1)
    return [{row: (own[row], behind(web, k, own, row)) for row in rows(web, k)} for web, own in zip(webs, ahead)]


def names(webs, k, depth):
    """For each web the dict from rows to names at the round."""
    told = marks(webs, k, depth)
    order = sorted({(len(row), mark) for own in told for row, mark in own.items()})
    index = {pair: at for at, pair in enumerate(order)}
    return [{row: index[len(row), mark] for row, mark in own.items()} for own in told]


def least_apart(one, other, k, most):
    """The least round up to this one at which the empty rows have unlike names, or None."""
    for depth in range(most + 1):
        first, second = names((one, other), k, depth)
        if first[()] != second[()]:
            return depth
    return None
