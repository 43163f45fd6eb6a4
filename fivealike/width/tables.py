"""Tables of the lines of a recipe in a web, without their noughts."""
from fivealike.width.lines import needed_lines


def first_table(line, web):
    """The table of a line that hangs on no other one."""
    points = range(len(web))
    if line[0] == "one":
        return {(): 1}
    if line[0] == "point":
        return {(point,): 1 for point in points}
    if line[0] == "same":
        return {(point, point): 1 for point in points}
    if line[0] == "colour":
        return {(point,): 1 for point in points if web.colours[point] == line[2]}
    return {(here, there): 1 for here in points for there in web.near(here)}


def picked(row, at):
    """The members of the row at these indices."""
    return tuple([row[here] for here in at])


def narrowed_table(places, one, within, other):
    """The product of two tables, told the places of both: those of the other one are some of those of the one."""
    at = [places.index(place) for place in within]
    found = {}
    for row, number in one.items():
        factor = other.get(picked(row, at))
        if factor is not None:
            found[row] = number * factor
    return found


def glued_tables(first, second, one, other):
    """The product of two tables, told the places of both."""
    common = [place for place in first if place in second]
    if len(common) == len(second):
        return narrowed_table(first, one, second, other)
    if len(common) == len(first):
        return narrowed_table(second, other, first, one)
    at_first = [first.index(place) for place in common]
    at_second = [second.index(place) for place in common]
    both = first + second
    at_both = [both.index(place) for place in sorted(set(both))]
    fitting = {}
    for row, number in other.items():
        fitting.setdefault(picked(row, at_second), []).append((row, number))
    table = {}
    for row, number in one.items():
        for behind, factor in fitting.get(picked(row, at_first), []):
            table[picked(row + behind, at_both)] = number * factor
    return table


def summed_table(places, place, one):
    """The sums of a table over all points at the place."""
    at = places.index(place)
    table = {}
    for row, number in one.items():
        left = row[:at] + row[at + 1:]
        table[left] = table.get(left, 0) + number
    return table


def last_table(recipe, places, web):
    """The table of the last line, told the places of all lines, its keys ascending."""
    tables = {}
    for at in needed_lines(recipe):
        line = recipe[at]
        if line[0] == "glue":
            one, other = line[1], line[2]
            tables[at] = glued_tables(places[one], places[other], tables[one], tables[other])
        elif line[0] == "sum":
            tables[at] = summed_table(places[line[2]], line[1], tables[line[2]])
        else:
            tables[at] = first_table(line, web)
    table = tables[len(recipe) - 1]
    return {row: table[row] for row in sorted(table)}
