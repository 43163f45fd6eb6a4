"""Recipes with k + 1 places: what they are, their depths and numbers."""
from fivealike.judge.graphs import GREATEST_COLOUR
from fivealike.judge.grids import Grid
from fivealike.judge.plain import are_between, is_integer

MOST_LINES = 2000
LENGTHS = {"one": 1, "point": 2, "tie": 3, "same": 3, "colour": 3, "glue": 3, "sum": 3}


def has_form(line):
    """Whether the value is a tuple of a word and of as many integers from 0 on as follow it."""
    if not isinstance(line, tuple) or len(line) == 0 or not isinstance(line[0], str):
        return False
    if line[0] not in LENGTHS or len(line) != LENGTHS[line[0]]:
        return False
    return all([is_integer(number) and number >= 0 for number in line[1:]])


def places_of_line(k, line, ahead):
    """The places of a line, told those of the lines ahead; None if it cannot stand there."""
    if not has_form(line):
        return None
    if line[0] == "glue":
        if not are_between(line[1:], 0, len(ahead) - 1):
            return None
        return tuple(sorted(set(ahead[line[1]] + ahead[line[2]])))
    if line[0] == "sum":
        if line[2] >= len(ahead) or line[1] not in ahead[line[2]]:
            return None
        return tuple([place for place in ahead[line[2]] if place != line[1]])
    if line[0] in ("tie", "same"):
        return line[1:] if line[1] < line[2] <= k else None
    if line[0] == "colour" and line[2] > GREATEST_COLOUR:
        return None
    return line[1:2] if line[0] == "one" or line[1] <= k else None


def is_recipe(k, value):
    """Whether the value is a tuple of lines, the last one of which has no place."""
    if not isinstance(value, tuple) or not 1 <= len(value) <= MOST_LINES:
        return False
    found = []
    for line in value:
        places = places_of_line(k, line, found)
        if places is None:
            return False
        found.append(places)
    return found[-1] == ()


def lines_within(line):
    """The indices of the lines of which this one is made."""
    if line[0] == "glue":
        return line[1:]
    return line[2:] if line[0] == "sum" else ()


def recipe_depth(recipe):
    """The depth of the last line."""
    depths = []
    for line in recipe:
        deepest = max([depths[at] for at in lines_within(line)], default=0)
        depths.append(deepest + 1 if line[0] == "sum" else deepest)
    return depths[-1]


def numbers_of_line(grid, line, ahead):
    """For each row what the line tells of it, told this of the lines ahead."""
    if line[0] == "glue":
        return [one * other for one, other in zip(ahead[line[1]], ahead[line[2]])]
    if line[0] == "sum":
        return grid.summed(line[1], ahead[line[2]])
    if line[0] == "tie":
        return grid.tied(line[1], line[2])
    if line[0] == "same":
        return grid.same(line[1], line[2])
    if line[0] == "colour":
        return grid.coloured(line[1], line[2])
    return grid.constant(1) if line[0] == "one" else grid.some_point()


def needed_lines(recipe):
    """A dict that has the indices of the last line and of all those of which it is made."""
    needed = {len(recipe) - 1: True}
    for at in reversed(range(len(recipe))):
        if at in needed:
            for ahead in lines_within(recipe[at]):
                needed[ahead] = True
    return needed


def told_number(graph, k, recipe, is_capped):
    """The number of the recipe on the graph, or just 1 for all that is above 0."""
    grid = Grid(graph, k)
    needed = needed_lines(recipe)
    found = []
    for at, line in enumerate(recipe):
        numbers = numbers_of_line(grid, line, found) if at in needed else []
        found.append([min(number, 1) for number in numbers] if is_capped else numbers)
    return found[-1][0]


def number_in(graph, k, recipe):
    """The number of the recipe on the graph."""
    return told_number(graph, k, recipe, False)


def is_above_nought(graph, k, recipe):
    """Whether the number of the recipe on the graph is above 0; however great it is, the work stays small."""
    return told_number(graph, k, recipe, True) == 1
