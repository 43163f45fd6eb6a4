"""Papers that no recipe tells a pattern from a web: families of parts."""
from fivealike.judge.plain import is_ascending, is_between, is_tuple_of, without_place


def is_pair(one, other, value):
    """Whether the value is a pair of a point of the one graph and of one of the other one that has its colour."""
    if not is_tuple_of(value, 2) or not is_between(value[0], 0, one.many - 1):
        return False
    if not is_between(value[1], 0, other.many - 1):
        return False
    return one.colours[value[0]] == -1 or one.colours[value[0]] == other.colours[value[1]]


def is_part(one, other, most, value):
    """Whether the value is a part of at most so many pairs."""
    if not isinstance(value, tuple) or len(value) > most or not all([is_pair(one, other, pair) for pair in value]):
        return False
    if not is_ascending([here for here, _ in value]):
        return False
    for at, (here, image) in enumerate(value):
        for there, other_image in value[:at]:
            if one.is_tied(here, there) and not other.is_tied(image, other_image):
                return False
    return True


def is_led_on(one, part, led):
    """Whether the part is led on to a pair for each point that it lacks."""
    own = [here for here, _ in part]
    return all([(part, point) in led for point in range(one.many) if point not in own])


def is_family(one, other, k, value):
    """Whether the value is a keeper's family for k."""
    if not isinstance(value, tuple) or not all([is_part(one, other, k + 1, part) for part in value]):
        return False
    family = {part: True for part in value}
    if not is_ascending(value) or () not in family:
        return False
    led = {}
    for part in value:
        for at, (here, _) in enumerate(part):
            led[without_place(part, at), here] = True
    if not all([left in family for left, _ in led]):
        return False
    return all([is_led_on(one, part, led) for part in value if len(part) <= k])
