"""Atoms of rows, told by numbers: one for the colours, and one for the pattern of tied and equal places.

Pairs of places have numbers, in the sequence (0, 1), (0, 2), (1, 2), (0, 3), (1, 3), (2, 3). A pattern
is told by bits: those of the tied pairs, and, above these, those of the pairs of one and the same point.
"""
TIED = 1
SAME = 64
PAIR_BITS = 6
PATTERN_BITS = 12
# For each number of places the number of the first pair whose last place comes behind these.
FIRST_PAIRS = (0, 0, 1, 3)
MANY_COLOURS = 11
# For each lot of pairs, told by its bits, its place among all lots in the sequence of their ascending tuples.
LOT_PLACES = (
    0, 1, 33, 2, 57, 26, 42, 11, 49, 18, 34, 3, 50, 19, 35, 4,
    61, 30, 46, 15, 58, 27, 43, 12, 54, 23, 39, 8, 51, 20, 36, 5,
    63, 32, 48, 17, 60, 29, 45, 14, 56, 25, 41, 10, 53, 22, 38, 7,
    62, 31, 47, 16, 59, 28, 44, 13, 55, 24, 40, 9, 52, 21, 37, 6,
)


def digit_rows(many, ties):
    """For each of so many points, with these ties, the list of the bits that it makes with all points."""
    rows = [[0] * many for _ in range(many)]
    for here, there in ties:
        rows[here][there] = TIED
        rows[there][here] = TIED
    for point in range(many):
        rows[point][point] = SAME
    return rows


def next_colours(colours, own):
    """The numbers of the colours of the rows with a point behind those that have these numbers."""
    return [ahead * MANY_COLOURS + colour for ahead in colours for colour in own]


def next_patterns(patterns, behind, length):
    """The patterns of the rows with a point behind the rows of this length that have these ones.

    What is `behind` tells for each of these rows and each point the bits of this point.
    """
    if length == 0:
        return behind
    many = len(behind) // max(len(patterns), 1)
    first = FIRST_PAIRS[length]
    ahead = [pattern for pattern in patterns for _ in range(many)]
    return [pattern | bits << first for pattern, bits in zip(ahead, behind)]


def next_behind(behind, rows, length):
    """What is behind the rows with a point more, told what is behind the rows of this length."""
    last = [bits << length for row in rows for bits in row]
    if length == 0:
        return last
    many = len(rows)
    found = []
    for at in range(0, len(behind), max(many, 1)):
        found.extend([bits | more for bits, more in zip(behind[at:at + many] * many, last)])
    return found


def rank_of(pattern):
    """A number for a pattern: these numbers have the sequence of atoms."""
    lot = (1 << PAIR_BITS) - 1
    return LOT_PLACES[pattern >> PAIR_BITS] << PAIR_BITS | LOT_PLACES[pattern & lot]


def ranks_of(patterns):
    """The list of such numbers for all these patterns."""
    ranks = {pattern: rank_of(pattern) for pattern in sorted(set(patterns))}
    return [ranks[pattern] for pattern in patterns]
