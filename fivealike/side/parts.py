"""Parts of maps from a pattern into a web, and families of them."""
from fivealike.plain import is_ascending, is_between, is_pair
from fivealike.program.partials import Pairs, points_in
from fivealike.web.bits import bits_of, near_bits
from fivealike.web.maps import images_of, keeps_colour
from fivealike.web.webs import is_lot


def is_list_of_pairs(one, other, value):
    """Whether the value is a tuple of pairs of a point of the one and of one of the other web."""
    if not isinstance(value, tuple) or not all([is_pair(pair) for pair in value]):
        return False
    return all([is_between(here, 0, len(one) - 1) and is_between(there, 0, len(other) - 1) for here, there in value])


def is_part_of(one, other, value):
    """Whether the value is a part, of any length."""
    if not is_list_of_pairs(one, other, value) or not is_lot(one, points_in(value)):
        return False
    if not all([keeps_colour(one, other, here, there) for here, there in value]):
        return False
    images = dict(value)
    tied = [(images[here], images[there]) for here, there in one.ties if here in images and there in images]
    return all([other.is_tied(here, there) for here, there in tied])


def pairs_of_parts(one, other):
    """The pairs that can be in parts of the one and the other."""
    images = [bits_of(images_of(one, other, point)) for point in range(len(one))]
    return Pairs(images, near_bits(one), near_bits(other), [-1] * len(other))


def are_tuples_of_pairs(value):
    """Whether the value is a tuple of tuples of pairs of integers."""
    if not isinstance(value, tuple):
        return False
    for part in value:
        if not isinstance(part, tuple):
            return False
        for pair in part:
            if not isinstance(pair, tuple) or len(pair) != 2 or type(pair[0]) != int or type(pair[1]) != int:
                return False
    return True


def is_led_on_in(one, k, family):
    """Whether each member without a pair is one, and each of at most k pairs is led on to a pair for each point.

    The members are all parts of at most k + 1 pairs.
    """
    # For each member that is to be led on the bits of the points for which it is, its own among them.
    led = {part: 0 for part in family if len(part) <= k}
    for part in family:
        own = 0
        for at, (here, _) in enumerate(part):
            left = part[:at] + part[at + 1:]
            if left not in led:
                return False
            led[left] = led[left] | 1 << here
            own = own | 1 << here
        if len(part) <= k:
            led[part] = led[part] | own
    whole = (1 << len(one)) - 1
    return all([bits == whole for bits in list(led.values())])


def is_family_of(one, other, k, value):
    """Whether the value is a family for k."""
    if not are_tuples_of_pairs(value) or not is_ascending(value) or () not in value:
        return False
    return pairs_of_parts(one, other).are_partials(value, k + 1) and is_led_on_in(one, k, value)
