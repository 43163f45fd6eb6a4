"""The mixed program of two webs: its partials, its sums and its points."""
from fivealike.colour.fields import fields_of
from fivealike.colour.names import rounds_to_part
from fivealike.errors import InvalidMap, InvalidNumber, InvalidOperation, Refused, TooMany
from fivealike.linear import divisor_of
from fivealike.plain import are_between, is_between, power_up_to
from fivealike.program.checked import is_point_of, point_by_types
from fivealike.program.matching import matched
from fivealike.program.partials import Couple, pairs_for, with_pair
from fivealike.web.checks import check_couple, check_level
from fivealike.web.maps import are_unlike, is_same

MOST_MANY = 4
MOST_LESSER = 300


def check_lesser(one, other, many):
    """Refuses webs with more rows of so many points than the lesser rows limit lets."""
    for web in (one, other):
        if power_up_to(len(web), many, MOST_LESSER) > MOST_LESSER:
            raise TooMany(MOST_LESSER)


def is_partial(one, other, value):
    """Whether the value is a partial."""
    check_couple(one, other)
    return Couple(one, other).is_partial(value)


def partials(one, other, many):
    """The tuple of all partials of at most so many pairs."""
    check_couple(one, other)
    if not is_between(many, 0, MOST_MANY):
        raise InvalidNumber(many)
    check_lesser(one, other, many)
    return tuple(pairs_for(one, other).partials_up_to(many))


def is_sum(one, other, k, value):
    """Whether the value is a sum of the level k."""
    check_level(one, other, k)
    return Couple(one, other).is_sum(k, value)


def members(one, other, k, total):
    """The tuple of the members of a sum."""
    check_level(one, other, k)
    couple = Couple(one, other)
    if not couple.is_sum(k, total):
        raise InvalidOperation("a sum of the level k is asked for")
    return couple.members(total)


def point_of(one, other, k):
    """A point of webs that are alike for ever."""
    check_level(one, other, k)
    check_lesser(one, other, k + 1)
    fields = fields_of((one, other), k)
    rounds, least = rounds_to_part(fields, None)
    if least is not None:
        raise Refused(("apart", least))
    return point_by_types(one, other, k, fields, rounds[-1])


def is_point(one, other, k, value):
    """Whether the value is a point."""
    check_level(one, other, k)
    check_lesser(one, other, k + 1)
    return is_point_of(one, other, k, value)


def check_point_of(one, other, k, point):
    """Refuses what is no point."""
    if not is_point_of(one, other, k, point):
        raise InvalidOperation("a point of the program is asked for")


def check_partial(one, other, k, partial):
    """Refuses what is no partial of at most k pairs."""
    if not Couple(one, other).is_partial(partial) or len(partial) > k:
        raise InvalidMap("a partial of at most k pairs is asked for")


def check_led(one, other, k, point, partial):
    """Refuses what nothing can be led on by."""
    check_level(one, other, k)
    check_point_of(one, other, k, point)
    check_partial(one, other, k, partial)
    check_lesser(one, other, k + 1)
    if partial not in point[1]:
        raise Refused(("nought",))


def images_at(one, other, told, partial):
    """For each point the list of those to which it can be led, so that the partial with both is above 0."""
    own = dict(partial)
    found = []
    for here in range(len(one)):
        if here in own:
            found.append([own[here]])
        else:
            found.append([there for there in range(len(other)) if with_pair(partial, here, there) in told])
    return found


def led_on(one, other, k, point, partial):
    """A one to one tuple of an image for each point, with which the partial is above 0 throughout."""
    check_led(one, other, k, point, partial)
    return matched(images_at(one, other, point[1], partial))


def is_led_on(one, other, k, point, partial, value):
    """Whether the value is a right answer of `led_on`."""
    check_led(one, other, k, point, partial)
    if not are_between(value, 0, len(other) - 1) or len(value) != len(one) or not are_unlike(value):
        return False
    images = images_at(one, other, point[1], partial)
    return all([there in those for there, those in zip(value, images)])


def parts_within(images, many):
    """The list of the partials of at most so many pairs within a map."""
    found = [()]
    for pair in enumerate(images):
        found = found + [partial + (pair,) for partial in found if len(partial) < many]
    return found


def map_point(one, other, k, images):
    """The point of a map that shows that the webs are the same."""
    check_level(one, other, k)
    if not is_same(one, other, images):
        raise InvalidMap("a map that shows that the webs are the same is asked for")
    check_lesser(one, other, k + 1)
    return (1, {partial: 1 for partial in sorted(parts_within(images, k + 1))})


def mixed_point(one, other, k, first, second):
    """The point halfway between two points, in least terms."""
    check_level(one, other, k)
    check_point_of(one, other, k, first)
    check_point_of(one, other, k, second)
    check_lesser(one, other, k + 1)
    told = {partial: number * second[0] for partial, number in first[1].items()}
    for partial, number in second[1].items():
        told[partial] = told.get(partial, 0) + number * first[0]
    divisor = divisor_of(list(told.values()))
    return (told[()] // divisor, {partial: told[partial] // divisor for partial in sorted(told)})
