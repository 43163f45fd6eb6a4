"""Forests of patterns, the recipes that they are, and those with unlike counts."""
from fivealike.colour.alike import check_pair
from fivealike.colour.apart import least_between
from fivealike.colour.fields import fields_of
from fivealike.colour.names import rounds_to_part
from fivealike.depth.growth import forest_along, recipe_along
from fivealike.depth.search import Search
from fivealike.depth.trees import depth_of, is_forest_of
from fivealike.errors import InvalidBags, TooMany
from fivealike.pattern.closure import check_closure, numbers_unlike, unlike_told
from fivealike.web.checks import check_k, check_level
from fivealike.web.webs import Web, check_web
from fivealike.width.recipes import check_closed, check_pattern, places_checked, web_of_shape

MOST_TRIED = 7


def check_asked(pattern, k):
    """Refuses what are no web and no k."""
    check_web(pattern)
    check_k(k)


def check_forest(pattern, k, forest):
    """Refuses what are no web and no k, and what is no forest."""
    check_asked(pattern, k)
    if not is_forest_of(pattern, k, forest):
        raise InvalidBags("a forest of the pattern for k is asked for")


def is_forest(pattern, k, value):
    """Whether the value is a forest of the pattern for k."""
    check_asked(pattern, k)
    return is_forest_of(pattern, k, value)


def forest_depth(pattern, k, forest):
    """The most points of the forest that are one above another."""
    check_forest(pattern, k, forest)
    return depth_of(forest[0])


def forest_told(recipe):
    """The pattern of this, which is a recipe, what is above its points, and their labels."""
    check_pattern(recipe)
    shape, forest = forest_along(recipe)
    return (web_of_shape(shape), tuple(forest[0]), tuple(forest[1]))


def forest_of(recipe, k):
    """A pattern with as many maps as the recipe tells, and a forest of it that is not deeper."""
    check_closed(places_checked(recipe, k))
    return forest_told(recipe)


def recipe_of_forest(pattern, k, forest):
    """A recipe that tells how many maps the pattern has, not deeper than the forest."""
    check_forest(pattern, k, forest)
    return recipe_along(pattern, forest[0], forest[1])


def check_tried(pattern, k):
    """Refuses what are no web and no k, and patterns with too many points."""
    check_asked(pattern, k)
    if len(pattern) > MOST_TRIED:
        raise TooMany(MOST_TRIED)


def least_forest(pattern, k):
    """A forest of the least depth, None if there is none."""
    check_tried(pattern, k)
    search = Search(pattern, k)
    return None if search.least() is None else search.forest()


def least_depth(pattern, k):
    """The least depth of a forest, None if there is none."""
    check_tried(pattern, k)
    return Search(pattern, k).least()


def unlike_forest(one, other, k):
    """A pattern with unlike numbers of maps and a forest of it, as deep as the webs are alike; None for ever."""
    check_level(one, other, k)
    check_closure(one, other, k)
    fields = fields_of((one, other), k)
    rounds, least = rounds_to_part(fields, None)
    return None if least is None else forest_told(unlike_told(fields, rounds))


def is_unlike_forest(one, other, k, value):
    """Whether the value is a pattern with unlike numbers of maps, and a forest of it of the right depth."""
    check_pair(one, other, k)
    if not isinstance(value, tuple) or len(value) != 3 or not isinstance(value[0], Web):
        return False
    pattern, above, labels = value
    least = least_between(one, other, k, None)
    if least is None or not is_forest_of(pattern, k, (above, labels)) or depth_of(above) != least:
        return False
    return numbers_unlike(recipe_along(pattern, above, labels), k, (one, other))
