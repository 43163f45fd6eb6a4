"""Sayings and sentences with few names: what they are, and where they are true."""
from fivealike.errors import InvalidOperation, InvalidRow, InvalidSentence, TooMany
from fivealike.plain import are_between, is_between
from fivealike.say.truth import Grid
from fivealike.web.checks import check_k, check_rows
from fivealike.web.webs import GREATEST_COLOUR, LEAST_COLOUR, check_web, is_row_of

MOST_LINES = 2000
MOST_LEAST = 99
MOST_WITHIN = 40
LENGTHS = {"tie": 3, "same": 3, "colour": 3, "not": 2, "all": 2, "some": 2, "least": 4}
MADE_OF_NONE = (("all", ()), ("some", ()))
# For the bits of some of the names 0 to 3 the ascending tuple of these.
NAMES_OF = ((), (0,), (1,), (0, 1), (2,), (0, 2), (1, 2), (0, 1, 2), (3,), (0, 3), (1, 3), (0, 1, 3), (2, 3), (0, 2, 3),
            (1, 2, 3), (0, 1, 2, 3))


def lines_within(line):
    """The tuple of the indices of the lines that this one is made of."""
    if line[0] == "not":
        return (line[1],)
    if line[0] == "least":
        return (line[3],)
    return line[1] if line[0] in ("all", "some") else ()


def bits_of_two(low, high, k):
    """The bits of two names, the lesser one first, None if they are no such names."""
    if type(low) == int and type(high) == int and 0 <= low < high <= k:
        return 1 << low | 1 << high
    return None


def bits_of_coloured(k, line):
    """The bits of the name of a line that tells a colour, None if this or the name cannot stand there."""
    if not is_between(line[1], 0, k) or not is_between(line[2], LEAST_COLOUR, GREATEST_COLOUR):
        return None
    return 1 << line[1]


def bits_of_many(within, ahead):
    """The bits of the free names of some lines together, None if these are no tuple of lines ahead."""
    if not isinstance(within, tuple) or len(within) > MOST_WITHIN:
        return None
    many = len(ahead)
    found = 0
    for at in within:
        if type(at) != int or not 0 <= at < many:
            return None
        found = found | ahead[at]
    return found


def bits_of_least(k, line, ahead):
    """The bits of the free names of a line that counts points, None if it cannot stand there."""
    if not is_between(line[1], 1, MOST_LEAST) or not is_between(line[2], 0, k):
        return None
    found = bits_of_many(line[3:], ahead)
    return None if found is None else found & ~(1 << line[2])


def bits_of_line(k, line, ahead):
    """The bits of the free names of a line, told those of the lines ahead; None if it is no line for k there."""
    if not isinstance(line, tuple) or len(line) == 0 or not isinstance(line[0], str):
        return None
    word = line[0]
    if LENGTHS.get(word) != len(line):
        return None
    if word in ("tie", "same"):
        return bits_of_two(line[1], line[2], k)
    if word in ("all", "some"):
        return bits_of_many(line[1], ahead)
    if word == "not":
        return bits_of_many(line[1:], ahead)
    return bits_of_coloured(k, line) if word == "colour" else bits_of_least(k, line, ahead)


def bits_of_lines(k, value):
    """The list of the bits of the free names of all lines of a saying for k, None for any other value."""
    if not isinstance(value, tuple) or not 1 <= len(value) <= MOST_LINES:
        return None
    found = []
    for line in value:
        bits = 0 if line in MADE_OF_NONE else bits_of_line(k, line, found)
        if bits is None:
            return None
        found.append(bits)
    return found


def free_of(k, value):
    """The list of the free names of all lines of a saying for k, None for any other value."""
    found = bits_of_lines(k, value)
    return None if found is None else [NAMES_OF[bits] for bits in found]


def is_sentence_of(k, value):
    """Whether the value is a sentence for this, which is a k."""
    found = bits_of_lines(k, value)
    return found is not None and found[-1] == 0


def is_saying(k, value):
    """Whether the value is a saying for k."""
    check_k(k)
    return bits_of_lines(k, value) is not None


def is_sentence(k, value):
    """Whether the value is a sentence for k: a saying whose last line has no free name."""
    check_k(k)
    return is_sentence_of(k, value)


def free_checked(k, saying):
    """The free names of all lines; refuses what is no k, then what is no saying for it."""
    check_k(k)
    free = free_of(k, saying)
    if free is None:
        raise InvalidSentence("a saying for k is asked for")
    return free


def check_sentence(k, sentence):
    """Refuses what is no sentence for this, which is a k."""
    if not is_sentence_of(k, sentence):
        raise InvalidSentence("a sentence for k, a saying whose last line has no free name, is asked for")


def free_names(k, saying):
    """The tuple of the ascending tuples of the free names of all lines."""
    return tuple(free_checked(k, saying))


def depths_of(lines):
    """The list of the depths of all these lines."""
    found = []
    for line in lines:
        deepest = max([found[at] for at in lines_within(line)], default=0)
        found.append(deepest + 1 if line[0] == "least" else deepest)
    return found


def depths(k, saying):
    """The tuple of the depths of all lines."""
    free_checked(k, saying)
    return tuple(depths_of(saying))


def needed_of(lines):
    """The ascending list of the indices of the last line and of all that it hangs on."""
    needed = {len(lines) - 1: True}
    waiting = [len(lines) - 1]
    while waiting != []:
        line = lines[waiting.pop()]
        fresh = [at for at in lines_within(line) if at not in needed]
        for at in fresh:
            needed[at] = True
        waiting.extend(fresh)
    return sorted(needed)


def with_indices(line, index):
    """The line with the indices of others led on by the dict or list."""
    if line[0] == "not":
        return ("not", index[line[1]])
    if line[0] == "least":
        return line[:3] + (index[line[3]],)
    if line[0] in ("all", "some"):
        return (line[0], tuple([index[at] for at in line[1]]))
    return line


def needed_alone(lines):
    """The tuple of the lines that the last one needs, and itself, their indices led on."""
    index = {}
    found = []
    for at in needed_of(lines):
        index[at] = len(found)
        found.append(with_indices(lines[at], index))
    return tuple(found)


def tables_of(k, saying, web):
    """The tuple of the tables of all lines."""
    free = free_checked(k, saying)
    check_web(web)
    check_rows((web,), k)
    grid = Grid(web, k)
    return tuple([grid.table_of(names, bits) for names, bits in zip(free, grid.truths_of(saying))])


def last_truth(grid, saying):
    """The bits of the last line."""
    truths = grid.truths_of(needed_alone(saying))
    return truths[len(truths) - 1]


def holds_in(k, sentence, web):
    """Whether this, which is a sentence for k, is true of the web."""
    grid = Grid(web, k)
    return grid.is_true_with((), (), last_truth(grid, sentence))


def is_true(k, sentence, web):
    """Whether the sentence is true of the web."""
    check_k(k)
    check_sentence(k, sentence)
    check_web(web)
    check_rows((web,), k)
    return holds_in(k, sentence, web)


def check_length(lines):
    """Refuses too many lines."""
    if len(lines) > MOST_LINES:
        raise TooMany(MOST_LINES)


def not_of(k, sentence):
    """The sentence, and a line that denies it."""
    check_k(k)
    check_sentence(k, sentence)
    lines = sentence + (("not", len(sentence) - 1),)
    check_length(lines)
    return lines


def joined_by(word, k, one, other):
    """The lines of both sentences, and one that joins both last ones."""
    check_k(k)
    check_sentence(k, one)
    check_sentence(k, other)
    many = len(one)
    index = list(range(many, many + len(other)))
    lines = one + tuple([with_indices(line, index) for line in other])
    lines = lines + ((word, (many - 1, len(lines) - 1)),)
    check_length(lines)
    return lines


def both(k, one, other):
    """A sentence that is true if both are."""
    return joined_by("all", k, one, other)


def either(k, one, other):
    """A sentence that is true if one of both is."""
    return joined_by("some", k, one, other)


def renamed_line(line, order):
    """The line in which the name i is order[i]."""
    if line[0] in ("tie", "same"):
        here, there = order[line[1]], order[line[2]]
        return (line[0], min(here, there), max(here, there))
    if line[0] == "colour":
        return ("colour", order[line[1]], line[2])
    return ("least", line[1], order[line[2]], line[3]) if line[0] == "least" else line


def exchanged(k, saying, order):
    """The saying in which the name i is order[i]."""
    free_checked(k, saying)
    if not are_between(order, 0, k) or sorted(order) != list(range(k + 1)):
        raise InvalidOperation("a tuple that has each name once is asked for")
    return tuple([renamed_line(line, order) for line in saying])


def shortened(k, saying):
    """The saying without lines that are equal to elder ones, and without those that are not needed."""
    free_checked(k, saying)
    known = {}
    lines = []
    index = []
    for line in saying:
        led = with_indices(line, index)
        if led not in known:
            known[led] = len(lines)
            lines.append(led)
        index.append(known[led])
    return needed_alone(lines[:index[len(index) - 1] + 1])


def true_of(k, saying, web, row):
    """Whether the last line is true with the points of the row for its free names, ascending."""
    free = free_checked(k, saying)
    check_web(web)
    names = free[len(free) - 1]
    if not is_row_of(web, row) or len(row) != len(names):
        raise InvalidRow("a row of as many points as the last line has free names is asked for")
    check_rows((web,), k)
    grid = Grid(web, k)
    return grid.is_true_with(names, row, last_truth(grid, saying))
