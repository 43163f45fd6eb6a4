"""The rounds of rows by the words of the document, for tests to compare with."""
import itertools


def atom(web, row):
    pairs = list(itertools.combinations(range(len(row)), 2))
    return (tuple([web.colours[point] for point in row]),
            tuple([(i, j) for i, j in pairs if row[i] == row[j]]),
            tuple([(i, j) for i, j in pairs if (min(row[i], row[j]), max(row[i], row[j])) in web.ties]))


def rows(web, most):
    """All rows of at most so many points, shorter ones ahead, then ascending."""
    return [row for many in range(most + 1) for row in itertools.product(range(len(web)), repeat=many)]


def cuts(row):
    return [row[:place] + row[place + 1:] for place in range(len(row))]


def behind(web, k, names, row):
    """What is counted behind a row, as a tuple of pairs."""
    longer = [row + (point,) for point in range(len(web))]
    if len(row) < k:
        things = [names[far] for far in longer]
    else:
        things = [(atom(web, far), tuple([names[cut] for cut in cuts(far)])) for far in longer]
    return tuple([(thing, things.count(thing)) for thing in sorted(set(things))])


def marks(webs, k, depth):
    """For each web the dict from rows to marks at the round."""
    if depth == 0:
        return [{row: atom(web, row) for row in rows(web, k)} for web in webs]
    ahead = names(webs, k, depth - 1)
    return [{row: (own[row], behind(web, k, own, row)) for row in rows(web, k)} for web, own in zip(webs, ahead)]


def names(webs, k, depth):
    """For each web the dict from rows to names at the round."""
    told = marks(webs, k, depth)
    order = sorted({(len(row), mark) for own in told for row, mark in own.items()})
    index = {pair: at for at, pair in enumerate(order)}
    return [{row: index[len(row), mark] for row, mark in own.items()} for own in told]


def least_apart(one, other, k, most):
    """The least round up to this one at which the empty rows have unlike names, or None."""
    for depth in range(most + 1):
        first, second = names((one, other), k, depth)
        if first[()] != second[()]:
            return depth
    return None


def is_line_true(saying, at, leads, web):
    """Whether a line of a saying is true with the points to which the dict leads its names."""
    line = saying[at]
    if line[0] == "tie":
        return web.is_tied(leads[line[1]], leads[line[2]])
    if line[0] == "same":
        return leads[line[1]] == leads[line[2]]
    if line[0] == "colour":
        return web.colours[leads[line[1]]] == line[2]
    if line[0] == "not":
        return not is_line_true(saying, line[1], leads, web)
    if line[0] == "all":
        return all(is_line_true(saying, within, leads, web) for within in line[1])
    if line[0] == "some":
        return any(is_line_true(saying, within, leads, web) for within in line[1])
    true = [point for point in range(len(web)) if is_line_true(saying, line[3], {**leads, line[2]: point}, web)]
    return len(true) >= line[1]


def free(saying):
    """The list of the sets of free names of all lines."""
    found = []
    for line in saying:
        if line[0] in ("tie", "same"):
            found.append({line[1], line[2]})
        elif line[0] == "colour":
            found.append({line[1]})
        elif line[0] == "not":
            found.append(found[line[1]])
        elif line[0] == "least":
            found.append(found[line[3]] - {line[2]})
        else:
            found.append(set().union(*[found[at] for at in line[1]]))
    return found


def line_depths(saying):
    """The list of the depths of all lines."""
    found = []
    for line in saying:
        if line[0] == "least":
            found.append(found[line[3]] + 1)
        elif line[0] == "not":
            found.append(found[line[1]])
        else:
            found.append(max([found[at] for at in line[1]], default=0) if line[0] in ("all", "some") else 0)
    return found


def table(saying, at, web):
    """The table of a line: all rows of points for its free names with which it is true."""
    names = sorted(free(saying)[at])
    return tuple([row for row in itertools.product(range(len(web)), repeat=len(names))
                  if is_line_true(saying, at, dict(zip(names, row)), web)])


def holds(sentence, web):
    return is_line_true(sentence, len(sentence) - 1, {}, web)


def types(webs, k, m, depth):
    """For each web the dict from its rows of m points to what tells their types."""
    own = names(webs, k, depth)
    if m <= k:
        return [{row: told[row] for row in told if len(row) == m} for told in own]
    return [{row: (atom(web, row), tuple([told[cut] for cut in cuts(row)]))
             for row in itertools.product(range(len(web)), repeat=m)} for web, told in zip(webs, own)]
