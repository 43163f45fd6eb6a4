"""Atoms of rows, told by numbers: one for the colours, and one for the pattern of tied and equal places.

A pair of places has the digit 1 for tied points, 2 for one and the same point, else 0. The pattern
of a row tells the digits of all pairs of its places; those of the last place are the lowest ones.
"""
TIED = 1
SAME = 2
# How many ways there are for the digits of one place with so many places ahead.
WAYS = (1, 3, 9, 27)
MANY_COLOURS = 11


def digit_rows(web):
    """For each point the list of the digits that it makes with all points."""
    rows = [[0] * len(web) for _ in range(len(web))]
    for here, there in web.ties:
        rows[here][there] = TIED
        rows[there][here] = TIED
    for point in range(len(web)):
        rows[point][point] = SAME
    return rows


def next_colours(colours, web):
    """The numbers of the colours of the rows with a point behind those that have these numbers."""
    own = [colour + 1 for colour in web.colours]
    return [ahead * MANY_COLOURS + colour for ahead in colours for colour in own]


def next_patterns(patterns, behind, length, many):
    """The patterns of the rows with a point behind the rows of this length that have these ones.

    What is `behind` tells for each of these rows and each point the digits of this point.
    """
    ways = WAYS[length]
    found = []
    at = 0
    for ahead in patterns:
        found.extend([ahead * ways + digits for digits in behind[at:at + many]])
        at += many
    return found


def next_behind(behind, rows, length):
    """What is behind the rows with a point more, told what is behind the rows of this length."""
    many = len(rows)
    ways = WAYS[length]
    last = [digit * ways for row in rows for digit in row]
    found = []
    for at in range(0, len(behind), max(many, 1)):
        found.extend([digits + digit for digits, digit in zip(behind[at:at + many] * many, last)])
    return found


def pairs_told(pattern, length):
    """The ascending lists of the pairs of equal places and of tied ones that the pattern tells."""
    same = []
    tied = []
    left = pattern
    for high in reversed(range(1, length)):
        left, digits = divmod(left, WAYS[high])
        for low in range(high):
            digit = digits // WAYS[low] % WAYS[1]
            if digit == TIED:
                tied.append((low, high))
            elif digit == SAME:
                same.append((low, high))
    return (sorted(same), sorted(tied))


def ranks_of(patterns, length):
    """A dict from these patterns of rows of this length to their places in the sequence of atoms."""
    told = sorted([(pairs_told(pattern, length), pattern) for pattern in patterns])
    return {pattern: at for at, (_, pattern) in enumerate(told)}
