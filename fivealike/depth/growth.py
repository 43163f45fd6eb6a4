"""Forests of the patterns of recipes, line by line, and recipes of forests."""
from fivealike.depth.trees import below_of, lower_first, ways_up
from fivealike.width.hanging import Writer
from fivealike.width.lines import needed_lines
from fivealike.width.shapes import shape_of_line


def glued_forests(one, other):
    """Both forests beside one another, the points of the other one behind those of the one."""
    many = len(one[0])
    above = one[0] + [None if upper is None else upper + many for upper in other[0]]
    return (above, one[1] + other[1])


def under_one(forest, label):
    """The forest with one more point, which has this label, above all others."""
    many = len(forest[0])
    return ([many if upper is None else upper for upper in forest[0]] + [None], forest[1] + [label])


def with_exchanged(forest, gone, kept):
    """The forest when two places above it come to be one point, which has one of both labels no more.

    On each way down, from the first point with the kept label on, both labels are exchanged, if none
    with the one that is gone came ahead: what was seen by either label is seen by the kept one now.
    """
    above, labels = forest
    found = []
    for way in ways_up(above):
        met = [labels[point] for point in reversed(way) if labels[point] in (gone, kept)]
        label = labels[way[0]]
        if met != [] and met[0] == kept and label in (gone, kept):
            label = gone if label == kept else kept
        found.append(label)
    return (above, found)


def summed_forest(forest, shape, place):
    """The forest when the place of the line, which has this shape, is summed out."""
    key = shape.heads[place]
    left = sorted([here for here, head in shape.heads.items() if head == key and here != place])
    return with_exchanged(forest, place, left[0]) if left != [] else under_one(forest, place)


def forest_along(recipe):
    """The shape of the last line, and the lists of what is above its inner points and of their labels."""
    shapes = {}
    forests = {}
    for at in needed_lines(recipe):
        line = recipe[at]
        if line[0] == "glue":
            forests[at] = glued_forests(forests[line[1]], forests[line[2]])
        elif line[0] == "sum":
            forests[at] = summed_forest(forests[line[2]], shapes[line[2]], line[1])
        else:
            forests[at] = ([], [])
        shapes[at] = shape_of_line(line, shapes)
    return (shapes[len(recipe) - 1], forests[len(recipe) - 1])


def lines_at(writer, pattern, labels, way):
    """The indices of the lines for the colour of a point, and for its ties to those above it."""
    point = way[0]
    colour = pattern.colours[point]
    label = labels[point]
    lines = [writer.index_of(("point", label) if colour == -1 else ("colour", label, colour))]
    for upper in way[1:]:
        if pattern.is_tied(point, upper):
            lines.append(writer.index_of(("tie", min(label, labels[upper]), max(label, labels[upper]))))
    return lines


def recipe_along(pattern, above, labels):
    """The recipe whose number is how many maps the pattern has, from below upwards in its forest."""
    writer = Writer()
    ways = ways_up(above)
    below = below_of(above)
    told = {}
    for point in lower_first(above):
        lines = lines_at(writer, pattern, labels, ways[point]) + [told[lower] for lower in below[point]]
        told[point] = writer.index_of(("sum", labels[point], writer.glue_all(lines)))
    last = writer.glue_all([told[point] for point in range(len(above)) if above[point] is None])
    return tuple(writer.lines[:last + 1])
