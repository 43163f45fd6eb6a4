"""Sayings and sentences with few names: what they are, and where they are true."""
from fivealike.errors import InvalidOperation, InvalidRow, InvalidSentence, TooMany
from fivealike.plain import are_between, is_between
from fivealike.say.truth import Grid
from fivealike.web.checks import check_k, check_rows
from fivealike.web.webs import GREATEST_COLOUR, LEAST_COLOUR, check_web, is_row_of

MOST_LINES = 2000
MOST_LEAST = 99
MOST_WITHIN = 40
LENGTHS = {"tie": 3, "same": 3, "colour": 3, "not": 2, "all": 2, "some": 2, "least": 4}


def has_form(value):
    """Whether the value is a tuple of a word of lines and of as many members as follow it."""
    if not isinstance(value, tuple) or value == () or not isinstance(value[0], str):
        return False
    return value[0] in LENGTHS and len(value) == LENGTHS[value[0]]


def lines_within(line):
    """The tuple of the indices of the lines that this one is made of."""
    if line[0] == "not":
        return (line[1],)
    if line[0] == "least":
        return (line[3],)
    return line[1] if line[0] in ("all", "some") else ()


def is_right_line(k, line, many):
    """Whether this, which has the form of a line, is a line for k behind so many lines."""
    if line[0] in ("tie", "same"):
        return are_between(line[1:], 0, k) and line[1] < line[2]
    if line[0] == "colour":
        return is_between(line[1], 0, k) and is_between(line[2], LEAST_COLOUR, GREATEST_COLOUR)
    if line[0] == "least" and not (is_between(line[1], 1, MOST_LEAST) and is_between(line[2], 0, k)):
        return False
    within = lines_within(line)
    return are_between(within, 0, many - 1) and len(within) <= MOST_WITHIN


def free_in(line, ahead):
    """The ascending tuple of the free names of a line, told those of the lines ahead."""
    if line[0] in ("tie", "same"):
        return line[1:]
    if line[0] == "colour":
        return (line[1],)
    found = {}
    for at in lines_within(line):
        for name in ahead[at]:
            if line[0] != "least" or name != line[2]:
                found[name] = True
    return tuple(sorted(found))


def free_of(k, value):
    """The list of the free names of all lines of a saying for k, None for any other value."""
    if not isinstance(value, tuple) or not 1 <= len(value) <= MOST_LINES:
        return None
    found = []
    for line in value:
        if not has_form(line) or not is_right_line(k, line, len(found)):
            return None
        found.append(free_in(line, found))
    return found


def is_sentence_of(k, value):
    """Whether the value is a sentence for this, which is a k."""
    free = free_of(k, value)
    return free is not None and free[len(free) - 1] == ()


def is_saying(k, value):
    """Whether the value is a saying for k."""
    check_k(k)
    return free_of(k, value) is not None


def is_sentence(k, value):
    """Whether the value is a sentence for k: a saying whose last line has no free name."""
    check_k(k)
    return is_sentence_of(k, value)


def free_checked(k, saying):
    """The free names of all lines; refuses what is no k, then what is no saying for it."""
    check_k(k)
    free = free_of(k, saying)
    if free is None:
        raise InvalidSentence("a saying for k is asked for")
    return free


def check_sentence(k, sentence):
    """Refuses what is no sentence for this, which is a k."""
    if not is_sentence_of(k, sentence):
        raise InvalidSentence("a sentence for k, a saying whose last line has no free name, is asked for")


def free_names(k, saying):
    """The tuple of the ascending tuples of the free names of all lines."""
    return tuple(free_checked(k, saying))


def depths_of(lines):
    """The list of the depths of all these lines."""
    found = []
    for line in lines:
        deepest = max([found[at] for at in lines_within(line)], default=0)
        found.append(deepest + 1 if line[0] == "least" else deepest)
    return found


def depths(k, saying):
    """The tuple of the depths of all lines."""
    free_checked(k, saying)
    return tuple(depths_of(saying))


def needed_of(lines):
    """The ascending list of the indices of the last line and of all that it hangs on."""
    needed = {len(lines) - 1: True}
    for at in reversed(range(len(lines))):
        if at in needed:
            for within in lines_within(lines[at]):
                needed[within] = True
    return sorted(needed)


def with_indices(line, index):
    """The line with the indices of others led on by the dict or list."""
    if line[0] == "not":
        return ("not", index[line[1]])
    if line[0] == "least":
        return line[:3] + (index[line[3]],)
    if line[0] in ("all", "some"):
        return (line[0], tuple([index[at] for at in line[1]]))
    return line


def needed_alone(lines):
    """The tuple of the lines that the last one needs, and itself, their indices led on."""
    index = {}
    found = []
    for at in needed_of(lines):
        index[at] = len(found)
        found.append(with_indices(lines[at], index))
    return tuple(found)


def tables_of(k, saying, web):
    """The tuple of the tables of all lines."""
    free = free_checked(k, saying)
    check_web(web)
    check_rows((web,), k)
    grid = Grid(web, k)
    return tuple([grid.table_of(names, bits) for names, bits in zip(free, grid.truths_of(saying))])


def last_truth(grid, saying):
    """The bits of the last line."""
    truths = grid.truths_of(needed_alone(saying))
    return truths[len(truths) - 1]


def holds_in(k, sentence, web):
    """Whether this, which is a sentence for k, is true of the web."""
    grid = Grid(web, k)
    return grid.is_true_with((), (), last_truth(grid, sentence))


def is_true(k, sentence, web):
    """Whether the sentence is true of the web."""
    check_k(k)
    check_sentence(k, sentence)
    check_web(web)
    check_rows((web,), k)
    return holds_in(k, sentence, web)


def check_length(lines):
    """Refuses too many lines."""
    if len(lines) > MOST_LINES:
        raise TooMany(MOST_LINES)


def not_of(k, sentence):
    """The sentence, and a line that denies it."""
    check_k(k)
    check_sentence(k, sentence)
    lines = sentence + (("not", len(sentence) - 1),)
    check_length(lines)
    return lines


def joined_by(word, k, one, other):
    """The lines of both sentences, and one that joins both last ones."""
    check_k(k)
    check_sentence(k, one)
    check_sentence(k, other)
    many = len(one)
    index = list(range(many, many + len(other)))
    lines = one + tuple([with_indices(line, index) for line in other])
    lines = lines + ((word, (many - 1, len(lines) - 1)),)
    check_length(lines)
    return lines


def both(k, one, other):
    """A sentence that is true if both are."""
    return joined_by("all", k, one, other)


def either(k, one, other):
    """A sentence that is true if one of both is."""
    return joined_by("some", k, one, other)


def renamed_line(line, order):
    """The line in which the name i is order[i]."""
    if line[0] in ("tie", "same"):
        here, there = order[line[1]], order[line[2]]
        return (line[0], min(here, there), max(here, there))
    if line[0] == "colour":
        return ("colour", order[line[1]], line[2])
    return ("least", line[1], order[line[2]], line[3]) if line[0] == "least" else line


def exchanged(k, saying, order):
    """The saying in which the name i is order[i]."""
    free_checked(k, saying)
    if not are_between(order, 0, k) or sorted(order) != list(range(k + 1)):
        raise InvalidOperation("a tuple that has each name once is asked for")
    return tuple([renamed_line(line, order) for line in saying])


def shortened(k, saying):
    """The saying without lines that are equal to elder ones, and without those that are not needed."""
    free_checked(k, saying)
    known = {}
    lines = []
    index = []
    for line in saying:
        led = with_indices(line, index)
        if led not in known:
            known[led] = len(lines)
            lines.append(led)
        index.append(known[led])
    return needed_alone(lines[:index[len(index) - 1] + 1])


def true_of(k, saying, web, row):
    """Whether the last line is true with the points of the row for its free names, ascending."""
    free = free_checked(k, saying)
    check_web(web)
    names = free[len(free) - 1]
    if not is_row_of(web, row) or len(row) != len(names):
        raise InvalidRow("a row of as many points as the last line has free names is asked for")
    check_rows((web,), k)
    grid = Grid(web, k)
    return grid.is_true_with(names, row, last_truth(grid, saying))
