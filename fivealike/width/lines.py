"""The lines of recipes: which values are such, their places and depths."""
from fivealike.plain import are_between

MOST_COLOUR = 9
GREATEST_PASSED = 999999999
LENGTHS = {"one": 1, "point": 2, "tie": 3, "same": 3, "colour": 3, "glue": 3, "sum": 3}


def is_like_line(value):
    """Whether the value is a tuple of a word of lines and of so many integers as follow it."""
    if not isinstance(value, tuple) or value == () or not isinstance(value[0], str):
        return False
    if value[0] not in LENGTHS or len(value) != LENGTHS[value[0]]:
        return False
    return are_between(value[1:], 0, GREATEST_PASSED)


def places_of_first(k, line):
    """The places of a line that hangs on no other one, None if they or its colour cannot be."""
    if line[0] == "one":
        return ()
    if line[0] == "point":
        return (line[1],) if line[1] <= k else None
    if line[0] == "colour":
        return (line[1],) if line[1] <= k and line[2] <= MOST_COLOUR else None
    return (line[1], line[2]) if line[1] < line[2] <= k else None


def places_of_line(k, line, ahead):
    """The places of a line, told those of the lines ahead; None if it is no line there."""
    if not is_like_line(line):
        return None
    if line[0] == "glue":
        one, other = line[1], line[2]
        if one >= len(ahead) or other >= len(ahead):
            return None
        return tuple(sorted(set(ahead[one] + ahead[other])))
    if line[0] == "sum":
        place, one = line[1], line[2]
        if one >= len(ahead) or place not in ahead[one]:
            return None
        return tuple([here for here in ahead[one] if here != place])
    return places_of_first(k, line)


def places_of(k, lines):
    """The list of the places of all these lines, None if one of them is none there."""
    found = []
    for line in lines:
        places = places_of_line(k, line, found)
        if places is None:
            return None
        found.append(places)
    return found


def lines_within(line):
    """The indices of the lines that this one is made of."""
    if line[0] == "glue":
        return (line[1], line[2])
    return (line[2],) if line[0] == "sum" else ()


def depths_of(recipe):
    """The list of the depths of all lines."""
    depths = []
    for line in recipe:
        deepest = max([depths[at] for at in lines_within(line)], default=0)
        depths.append(deepest + 1 if line[0] == "sum" else deepest)
    return depths


def needed_lines(recipe):
    """The ascending list of the indices of the last line and of all that it hangs on."""
    needed = {len(recipe) - 1: True}
    for at in reversed(range(len(recipe))):
        if at in needed:
            for ahead in lines_within(recipe[at]):
                needed[ahead] = True
    return sorted(needed)


def lines_alone(lines):
    """The tuple of the last line and of those that it hangs on, their indices led on."""
    index = {}
    found = []
    for at in needed_lines(lines):
        line = lines[at]
        index[at] = len(found)
        if line[0] == "glue":
            line = ("glue", index[line[1]], index[line[2]])
        elif line[0] == "sum":
            line = ("sum", line[1], index[line[2]])
        found.append(line)
    return tuple(found)
