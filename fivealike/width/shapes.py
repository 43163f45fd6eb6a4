"""The patterns of the lines of a recipe, built up line by line."""
from fivealike.width.lines import needed_lines

# The keys of points at no place begin here; a point at places has the least of these as its key.
INNER = 4


class Shape:
    """The pattern of a line, its points told by keys."""

    def __init__(self, heads, colours, ties, inner, broken):
        # heads: for each place the key of its point. inner: how many points are at no place.
        # broken: whether the line contradicts itself, though the lines ahead that it has do not.
        self.heads = heads
        self.colours = colours
        self.ties = ties
        self.inner = inner
        self.broken = broken


def first_shape(line):
    """The shape of a line that hangs on no other one."""
    if line[0] == "one":
        return Shape({}, {}, {}, 0, False)
    if line[0] == "point":
        return Shape({line[1]: line[1]}, {}, {}, 0, False)
    if line[0] == "colour":
        return Shape({line[1]: line[1]}, {line[1]: line[2]}, {}, 0, False)
    if line[0] == "same":
        return Shape({line[1]: line[1], line[2]: line[1]}, {}, {}, 0, False)
    return Shape({line[1]: line[1], line[2]: line[2]}, {}, {(line[1], line[2]): True}, 0, False)


def merged_heads(one, other):
    """The heads when the points of both at each common place are made one."""
    heads = {place: place for place in sorted(list(one.heads) + list(other.heads))}
    for place, head in list(one.heads.items()) + list(other.heads.items()):
        low = min(heads[place], heads[head])
        high = max(heads[place], heads[head])
        heads = {here: low if key == high else key for here, key in heads.items()}
    return heads


def key_in(heads, key, shift):
    """The new key of a point, when keys of points at no place grow by the shift."""
    return heads[key] if key < INNER else key + shift


def pair_of(here, there):
    """Both keys, the lesser one first."""
    return (min(here, there), max(here, there))


def glued_shapes(one, other):
    """The shape of a line that glues two others."""
    heads = merged_heads(one, other)
    colours = {}
    ties = {}
    broken = False
    for shape, shift in ((one, 0), (other, one.inner)):
        for key, colour in shape.colours.items():
            named = key_in(heads, key, shift)
            broken = broken or colours.get(named, colour) != colour
            colours[named] = colour
        for here, there in shape.ties:
            tie = pair_of(key_in(heads, here, shift), key_in(heads, there, shift))
            broken = broken or tie[0] == tie[1]
            ties[tie] = True
    return Shape(heads, colours, ties, one.inner + other.inner, broken)


def summed_shape(shape, place):
    """The shape of a line that sums out a place of another one."""
    key = shape.heads[place]
    left = sorted([here for here, head in shape.heads.items() if head == key and here != place])
    named = left[0] if left != [] else INNER + shape.inner
    names = {head: named if head == key else head for head in shape.heads.values()}
    heads = {here: names[head] for here, head in shape.heads.items() if here != place}
    colours = {names.get(here, here): colour for here, colour in shape.colours.items()}
    ties = {pair_of(names.get(here, here), names.get(there, there)): True for here, there in shape.ties}
    inner = shape.inner if left != [] else shape.inner + 1
    return Shape(heads, colours, ties, inner, False)


def without_inner(shape):
    """The shape with the points at no place just counted: all that others can tell of it."""
    colours = {key: colour for key, colour in shape.colours.items() if key < INNER}
    ties = {tie: True for tie in shape.ties if tie[1] < INNER}
    return Shape(shape.heads, colours, ties, shape.inner, shape.broken)


def shape_of_line(line, shapes):
    """The shape of a line, told those of the lines that it is made of."""
    if line[0] == "glue":
        return glued_shapes(shapes[line[1]], shapes[line[2]])
    return summed_shape(shapes[line[2]], line[1]) if line[0] == "sum" else first_shape(line)


def outer_shapes(recipe):
    """For the last line and each one that it hangs on the shape without inner points.

    The whole shapes can be large, though there is no answer for them, or none is asked for.
    """
    shapes = {}
    for at in needed_lines(recipe):
        shapes[at] = without_inner(shape_of_line(recipe[at], shapes))
    return shapes


def last_shape(recipe):
    """The whole shape of the last line.

    Its inner points have their keys in a sequence in which they are summed out.
    """
    shapes = {}
    for at in needed_lines(recipe):
        shapes[at] = shape_of_line(recipe[at], shapes)
    return shapes[len(recipe) - 1]
