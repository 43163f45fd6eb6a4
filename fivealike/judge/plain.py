"""Questions about plain values, which hold for values of every kind."""


def is_integer(value):
    """Whether the value is an integer; True and False are none."""
    return isinstance(value, int) and not isinstance(value, bool)


def is_between(value, low, high):
    """Whether the value is an integer from low to high."""
    return is_integer(value) and low <= value <= high


def are_between(value, low, high):
    """Whether the value is a tuple of integers from low to high."""
    return isinstance(value, tuple) and all([is_between(member, low, high) for member in value])


def is_tuple_of(value, many):
    """Whether the value is a tuple of so many members."""
    return isinstance(value, tuple) and len(value) == many


def is_ascending(members):
    """Whether each member is below the one behind it."""
    return all([members[at] < members[at + 1] for at in range(len(members) - 1)])


def are_unlike(members):
    """Whether no member, an integer, comes twice."""
    return len(set(members)) == len(members)


def is_lot(value, many):
    """Whether the value is an ascending tuple of integers from 0 on, below this one."""
    return are_between(value, 0, many - 1) and is_ascending(value)


def without_place(row, place):
    """The row with this place left out."""
    return row[:place] + row[place + 1:]


def power_of(base, times):
    """The product of so many of the same integer."""
    power = 1
    for _ in range(times):
        power = power * base
    return power
