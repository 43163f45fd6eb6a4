"""Recipes taken apart into those of the pieces of their patterns."""
from fivealike.width.hanging import Writer
from fivealike.width.lines import lines_alone, needed_lines


class Splitter:
    """The recipes of all pieces that are being written, line by line of one recipe.

    A part of a line tells the pattern of some of its points that hang together: the pair of its
    places and of the index of a line that is written.
    """

    def __init__(self):
        self.writer = Writer()

    def glued(self, one, other):
        """The part of two parts with a common place."""
        line = self.writer.index_of(("glue", one[1], other[1]))
        return (tuple(sorted(set(one[0] + other[0]))), line)

    def put_in(self, parts, part):
        """The parts with one more, to which those with a common place are glued."""
        kept = []
        whole = part
        for other in parts:
            if any([place in part[0] for place in other[0]]):
                whole = self.glued(other, whole)
            else:
                kept.append(other)
        return kept + [whole]

    def glued_parts(self, one, other):
        """The parts of a line that glues two others, told their parts."""
        parts = list(one)
        for part in other:
            parts = self.put_in(parts, part)
        return parts

    def summed_part(self, place, part):
        """The part with a place summed out."""
        line = self.writer.index_of(("sum", place, part[1]))
        return (tuple([here for here in part[0] if here != place]), line)

    def summed_parts(self, place, parts):
        """The parts of a line that sums over a place, told those of the line ahead."""
        return [self.summed_part(place, part) if place in part[0] else part for part in parts]

    def parts_of(self, line, ahead):
        """The pair of the parts with places and of those without, told those of the lines ahead."""
        if line[0] == "glue":
            one, other = ahead[line[1]], ahead[line[2]]
            return (self.glued_parts(one[0], other[0]), one[1] + other[1])
        if line[0] == "sum":
            parts, done = ahead[line[2]]
            parts = self.summed_parts(line[1], parts)
            return ([part for part in parts if part[0] != ()], done + [part for part in parts if part[0] == ()])
        if line[0] == "one":
            return ([], [])
        places = line[1:] if line[0] in ("tie", "same") else line[1:2]
        return ([(places, self.writer.index_of(line))], [])

    def recipe_at(self, part):
        """The recipe that tells of the part."""
        return lines_alone(self.writer.lines[:part[1] + 1])


def recipes_of_pieces(recipe):
    """The list of recipes, one for each piece of the pattern of this one, which has no place."""
    splitter = Splitter()
    parts = {}
    for at in needed_lines(recipe):
        parts[at] = splitter.parts_of(recipe[at], parts)
    return [splitter.recipe_at(part) for part in parts[len(recipe) - 1][1]]
