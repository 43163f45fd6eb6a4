"""Questions about plain values, which hold for values of every kind."""


def is_integer(value):
    """Whether the value is an integer; True and False are none."""
    return type(value) == int


def is_between(value, low, high):
    """Whether the value is an integer from low to high."""
    return type(value) == int and low <= value <= high


def are_between(value, low, high):
    """Whether the value is a tuple of integers from low to high."""
    if not isinstance(value, tuple):
        return False
    for member in value:
        if type(member) != int or not low <= member <= high:
            return False
    return True


def is_tuple_of(value, many):
    """Whether the value is a tuple of so many members."""
    return isinstance(value, tuple) and len(value) == many


def is_ascending(members):
    """Whether each member is below the one behind it."""
    for at in range(1, len(members)):
        if not members[at - 1] < members[at]:
            return False
    return True


def are_unlike(members):
    """Whether no member, an integer, comes twice."""
    return len(set(members)) == len(members)


def is_lot(value, many):
    """Whether the value is an ascending tuple of integers from 0 on, below this one."""
    return are_between(value, 0, many - 1) and is_ascending(value)


def without_place(row, place):
    """The row with this place left out."""
    return row[:place] + row[place + 1:]


def power_of(base, times):
    """The product of so many of the same integer."""
    power = 1
    for _ in range(times):
        power = power * base
    return power
