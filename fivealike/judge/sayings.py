"""Sentences with k + 1 names: what they are, their depths, and whether they are true."""
from fivealike.judge.graphs import GREATEST_COLOUR, LEAST_COLOUR
from fivealike.judge.grids import Grid
from fivealike.judge.plain import are_between, is_between

MOST_LINES = 2000
MOST_LEAST = 99
MOST_WITHIN = 40
LENGTHS = {"tie": 3, "same": 3, "colour": 3, "not": 2, "all": 2, "some": 2, "least": 4}


def has_form(line):
    """Whether the value is a tuple of a word and of as many members as follow it."""
    if not isinstance(line, tuple) or len(line) == 0 or not isinstance(line[0], str):
        return False
    return line[0] in LENGTHS and len(line) == LENGTHS[line[0]]


def lines_within(line):
    """The indices of the lines of which this one is made."""
    if line[0] == "not":
        return (line[1],)
    if line[0] == "least":
        return (line[3],)
    return line[1] if line[0] in ("all", "some") else ()


def is_line(k, line, many):
    """Whether the value is a line for k behind so many others."""
    if not has_form(line):
        return False
    if line[0] in ("tie", "same"):
        return are_between(line[1:], 0, k) and line[1] < line[2]
    if line[0] == "colour":
        return is_between(line[1], 0, k) and is_between(line[2], LEAST_COLOUR, GREATEST_COLOUR)
    if line[0] == "least" and not (is_between(line[1], 1, MOST_LEAST) and is_between(line[2], 0, k)):
        return False
    within = lines_within(line)
    return are_between(within, 0, many - 1) and len(within) <= MOST_WITHIN


def free_names(line, ahead):
    """The ascending tuple of the free names of a line, told those of the lines ahead."""
    if line[0] in ("tie", "same"):
        return line[1:]
    if line[0] == "colour":
        return line[1:2]
    bound = line[2:3] if line[0] == "least" else ()
    return tuple(sorted(set([name for at in lines_within(line) for name in ahead[at] if name not in bound])))


def is_sentence(k, value):
    """Whether the value is a tuple of lines, the last one of which has no free name."""
    if not isinstance(value, tuple) or not 1 <= len(value) <= MOST_LINES:
        return False
    free = []
    for line in value:
        if not is_line(k, line, len(free)):
            return False
        free.append(free_names(line, free))
    return free[-1] == ()


def sentence_depth(sentence):
    """The depth of the last line."""
    depths = []
    for line in sentence:
        deepest = max([depths[at] for at in lines_within(line)], default=0)
        depths.append(deepest + 1 if line[0] == "least" else deepest)
    return depths[-1]


def truth_of(grid, line, ahead):
    """1 for the rows with which a line is true, told those of the lines ahead."""
    if line[0] == "tie":
        return grid.tied(line[1], line[2])
    if line[0] == "same":
        return grid.same(line[1], line[2])
    if line[0] == "colour":
        return grid.coloured(line[1], line[2])
    if line[0] == "not":
        return [1 - number for number in ahead[line[1]]]
    if line[0] == "least":
        return [1 if number >= line[1] else 0 for number in grid.summed(line[2], ahead[line[3]])]
    found = grid.constant(1 if line[0] == "all" else 0)
    for at in line[1]:
        if line[0] == "all":
            found = [number * other for number, other in zip(found, ahead[at])]
        else:
            found = [max(number, other) for number, other in zip(found, ahead[at])]
    return found


def is_true(graph, k, sentence):
    """Whether the sentence is true of the graph."""
    grid = Grid(graph, k)
    truths = []
    for line in sentence:
        truths.append(truth_of(grid, line, truths))
    return truths[-1][0] == 1
