"""Maps from a pattern into a web, counted by trial, and products of webs."""
from fivealike.errors import InvalidMap, InvalidOperation, TooMany
from fivealike.plain import are_between, power_up_to
from fivealike.web.bits import bits_of, near_bits, points_of
from fivealike.web.webs import MOST_POINTS, Web, check_web

MOST_TRIED = 100000
GREATEST_PASSED = 999999999


def keeps_colour(pattern, web, point, image):
    """Whether a map can lead the point of the pattern to this image."""
    return pattern.colours[point] == -1 or pattern.colours[point] == web.colours[image]


def is_map_of(pattern, web, value):
    """Whether the value is a map of these, which are webs."""
    if not are_between(value, 0, len(web) - 1) or len(value) != len(pattern):
        return False
    if not all([keeps_colour(pattern, web, point, value[point]) for point in range(len(pattern))]):
        return False
    return all([web.is_tied(value[here], value[there]) for here, there in pattern.ties])


def are_unlike(points):
    """Whether no point comes twice."""
    return len(set(points)) == len(points)


def is_map(pattern, web, value):
    """Whether the value is a map of the pattern into the web."""
    check_web(pattern)
    check_web(web)
    return is_map_of(pattern, web, value)


def is_one_to_one(pattern, web, value):
    """Whether the value is a map whose images are unlike."""
    check_web(pattern)
    check_web(web)
    return is_map_of(pattern, web, value) and are_unlike(value)


def is_same(one, other, value):
    """Whether the value is an isomorphism of the first web onto the other one."""
    check_web(one)
    check_web(other)
    many = len(one)
    if len(other) != many or not are_between(value, 0, many - 1) or len(value) != many:
        return False
    if not are_unlike(value):
        return False
    if not all([one.colours[point] == other.colours[value[point]] for point in range(many)]):
        return False
    # One to one, and as many ties: if each tie is led to a tie, no other pair is.
    tied = all([other.is_tied(value[here], value[there]) for here, there in one.ties])
    return tied and len(one.ties) == len(other.ties)


def check_tried(pattern, web):
    """Refuses what are no webs, and those with too many maps to try."""
    check_web(pattern)
    check_web(web)
    if power_up_to(len(web), len(pattern), MOST_TRIED) > MOST_TRIED:
        raise TooMany(MOST_TRIED)


def images_of(pattern, web, point):
    """The ascending list of the points to which the colour of this one lets it be led."""
    return [image for image in range(len(web)) if keeps_colour(pattern, web, point, image)]


def elder_near(pattern, point):
    """The points ahead of this one that are tied to it."""
    return [there for there in pattern.near(point) if there < point]


def longer_maps(pattern, web, point, begun):
    """All beginnings of maps that also lead this point, in ascending sequence."""
    ahead = elder_near(pattern, point)
    found = []
    images = images_of(pattern, web, point)
    near = [web.near(image) for image in images]
    for images_ahead in begun:
        for image, around in zip(images, near):
            if all([images_ahead[there] in around for there in ahead]):
                found.append(images_ahead + (image,))
    return found


def all_maps(pattern, web):
    """The ascending list of all maps."""
    begun = [()]
    for point in range(len(pattern)):
        begun = longer_maps(pattern, web, point, begun)
    return begun


def maps_of(pattern, web):
    """The ascending tuple of all maps of the pattern into the web."""
    check_tried(pattern, web)
    return tuple(all_maps(pattern, web))


def narrowed(begun, narrow, tied_later):
    """Counts the beginnings of maps that also lead the next point, told what is left for the others.

    `begun` tells for each tuple of the bits to which the points from the next one on can be led how
    many beginnings leave these. `narrow` tells for each image the bits that it leaves to the points
    that are tied to the next one, and to those that are not.
    """
    found = {}
    for left, number in begun.items():
        for image in points_of(left[0]):
            tied, untied = narrow[image]
            later = tuple([bits & (tied if near else untied) for bits, near in zip(left[1:], tied_later)])
            if 0 not in later:
                found[later] = found.get(later, 0) + number
    return found


def number_by(pattern, web, narrow):
    """How many maps there are whose images leave to the other points what `narrow` tells."""
    images = tuple([bits_of(images_of(pattern, web, point)) for point in range(len(pattern))])
    if 0 in images:
        return 0
    begun = {images: 1}
    for point in range(len(pattern)):
        near = pattern.near(point)
        begun = narrowed(begun, narrow, [later in near for later in range(point + 1, len(pattern))])
    return begun.get((), 0)


def map_number(pattern, web):
    """How many maps of the pattern into the web there are."""
    check_tried(pattern, web)
    whole = (1 << len(web)) - 1
    return number_by(pattern, web, [(near, whole) for near in near_bits(web)])


def one_to_one_number(pattern, web):
    """How many one to one maps there are."""
    check_tried(pattern, web)
    whole = (1 << len(web)) - 1
    return number_by(pattern, web, [(near, whole & ~(1 << image)) for image, near in enumerate(near_bits(web))])


def told_number(pattern, web):
    """How many one to one maps there are that lead untied points to untied ones."""
    check_tried(pattern, web)
    whole = (1 << len(web)) - 1
    return number_by(pattern, web, [(near, whole & ~near & ~(1 << image)) for image, near in enumerate(near_bits(web))])


def times(one, other):
    """The product of both webs: the pair (a, b) is called a * m + b."""
    check_web(one)
    check_web(other)
    many = len(other)
    if len(one) * many > MOST_POINTS:
        raise TooMany(MOST_POINTS)
    colours = [here if here == there else -1 for here in one.colours for there in other.colours]
    ties = []
    for here, there in one.ties:
        for low, high in other.ties:
            ties.append((here * many + low, there * many + high))
            ties.append((here * many + high, there * many + low))
    return Web(tuple(colours), tuple(sorted(ties)))


def behind(first, second):
    """The map that leads where the second one leads behind the first one."""
    for images in (first, second):
        if not are_between(images, 0, GREATEST_PASSED):
            raise InvalidMap("a tuple of integers from 0 on is asked for")
    if not all([image < len(second) for image in first]):
        raise InvalidOperation("the first map leads to where the second one begins nowhere")
    return tuple([second[image] for image in first])
