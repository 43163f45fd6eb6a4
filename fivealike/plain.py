"""Questions about plain values, which hold for values of every kind."""


def is_integer(value):
    """Whether the value is an integer; True and False are none."""
    return type(value) == int


def is_between(value, low, high):
    """Whether the value is an integer from low to high."""
    return type(value) == int and low <= value <= high


def are_between(value, low, high):
    """Whether the value is a tuple of integers from low to high."""
    if not isinstance(value, tuple):
        return False
    for member in value:
        if type(member) != int or not low <= member <= high:
            return False
    return True


def is_pair(value):
    """Whether the value is a tuple of two members."""
    return isinstance(value, tuple) and len(value) == 2


def is_ascending(members):
    """Whether each member is below the one behind it."""
    for at in range(1, len(members)):
        if not members[at - 1] < members[at]:
            return False
    return True


def is_told(value, word):
    """Whether the value is a pair that begins with this word."""
    return is_pair(value) and isinstance(value[0], str) and value[0] == word


def power_up_to(base, exponent, most):
    """The power, or most + 1 if it is more than most; base and exponent are from 0 on."""
    power = 1
    for _ in range(exponent):
        power = min(power * base, most + 1)
    return power


def counted(things):
    """The ascending tuple of pairs of a thing and of how often it comes."""
    often = {}
    for thing in things:
        often[thing] = often.get(thing, 0) + 1
    return tuple([(thing, often[thing]) for thing in sorted(often)])
