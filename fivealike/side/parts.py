"""Parts of maps from a pattern into a web, and families of them."""
from fivealike.plain import is_ascending, is_between, is_pair
from fivealike.program.partials import points_in, without_pair
from fivealike.web.maps import keeps_colour
from fivealike.web.webs import is_lot


def is_list_of_pairs(one, other, value):
    """Whether the value is a tuple of pairs of a point of the one and of one of the other web."""
    if not isinstance(value, tuple) or not all([is_pair(pair) for pair in value]):
        return False
    return all([is_between(here, 0, len(one) - 1) and is_between(there, 0, len(other) - 1) for here, there in value])


def is_part_of(one, other, value):
    """Whether the value is a part, of any length."""
    if not is_list_of_pairs(one, other, value) or not is_lot(one, points_in(value)):
        return False
    if not all([keeps_colour(one, other, here, there) for here, there in value]):
        return False
    images = dict(value)
    tied = [(images[here], images[there]) for here, there in one.ties if here in images and there in images]
    return all([other.is_tied(here, there) for here, there in tied])


def is_led_on_in(one, k, family):
    """Whether each member of at most k pairs is led on to a pair for each point, by a dict of all members."""
    led = {}
    for part in family:
        for at, (here, _) in enumerate(part):
            left = without_pair(part, at)
            if left not in family:
                return False
            led[left, here] = True
    for part in family:
        if len(part) <= k:
            own = points_in(part)
            if not all([(part, point) in led for point in range(len(one)) if point not in own]):
                return False
    return True


def is_family_of(one, other, k, value):
    """Whether the value is a family for k."""
    if not isinstance(value, tuple):
        return False
    if not all([is_part_of(one, other, part) and len(part) <= k + 1 for part in value]):
        return False
    family = {part: True for part in value}
    return is_ascending(value) and () in family and is_led_on_in(one, k, family)
