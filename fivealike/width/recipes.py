"""Recipes, what they count in webs, and the patterns that they tell."""
from fivealike.errors import InvalidOperation, InvalidRecipe, Refused, TooMany
from fivealike.plain import power_up_to
from fivealike.web.checks import MOST_ROWS, check_k, check_rows
from fivealike.web.webs import MOST_POINTS, Web, check_web
from fivealike.width.bags import bags_along, check_bags, width_of
from fivealike.width.hanging import maps_along, written
from fivealike.width.lines import depths_of, places_of
from fivealike.width.shapes import INNER, last_shape, outer_shapes
from fivealike.width.tables import last_table

MOST_LINES = 2000
MOST_WORK = 400000


def places_open(k, value):
    """The list of the places of all lines of an open recipe, None for any other value."""
    if not isinstance(value, tuple) or not 1 <= len(value) <= MOST_LINES:
        return None
    return places_of(k, value)


def is_open(k, value):
    """Whether the value is an open recipe for k."""
    check_k(k)
    return places_open(k, value) is not None


def is_recipe(k, value):
    """Whether the value is a recipe for k: an open one whose last line has no place."""
    check_k(k)
    places = places_open(k, value)
    return places is not None and places[len(places) - 1] == ()


def places_checked(recipe, k):
    """The places of all lines; refuses what is no k, then what is no open recipe."""
    check_k(k)
    places = places_open(k, recipe)
    if places is None:
        raise InvalidRecipe("a recipe for k, which may be open, is asked for")
    return places


def check_closed(places):
    """Refuses an open recipe where one without places is asked for."""
    if places[len(places) - 1] != ():
        raise InvalidRecipe("a recipe for k, whose last line has no place, is asked for")


def check_work(recipe, k, web):
    """Refuses too many rows, and too many lines times rows."""
    check_rows((web,), k)
    if len(recipe) * power_up_to(len(web), k + 1, MOST_ROWS) > MOST_WORK:
        raise TooMany(MOST_WORK)


def fits_work(recipe, webs, k):
    """Whether lines times rows of k + 1 points of each web are no more than the limit lets."""
    most = max([power_up_to(len(web), k + 1, MOST_WORK) for web in webs])
    return len(recipe) * most <= MOST_WORK


def recipe_places(recipe, k):
    """The tuple of the places of all lines."""
    return tuple(places_checked(recipe, k))


def recipe_depth(recipe, k):
    """The depth of the last line."""
    places_checked(recipe, k)
    return depths_of(recipe)[len(recipe) - 1]


def recipe_table(recipe, k, web):
    """The table of the last line, without its noughts."""
    places = places_checked(recipe, k)
    check_web(web)
    check_work(recipe, k, web)
    return last_table(recipe, places, web)


def number_of(recipe, k, web):
    """The number that the recipe tells in the web."""
    places = places_checked(recipe, k)
    check_closed(places)
    check_web(web)
    check_work(recipe, k, web)
    return last_table(recipe, places, web).get((), 0)


def check_pattern(recipe):
    """Refuses a recipe whose pattern contradicts itself, or has too many points."""
    shapes = outer_shapes(recipe)
    for at in sorted(shapes):
        if shapes[at].broken:
            raise Refused(("never", at))
    if shapes[len(recipe) - 1].inner > MOST_POINTS:
        raise TooMany(MOST_POINTS)


def web_of_shape(shape):
    """The pattern of a shape without places."""
    colours = [shape.colours.get(INNER + point, -1) for point in range(shape.inner)]
    ties = [(here - INNER, there - INNER) for here, there in shape.ties]
    return Web(tuple(colours), tuple(sorted(ties)))


def pattern_of(recipe, k):
    """The pattern of a recipe, with bags of a width of at most k."""
    check_closed(places_checked(recipe, k))
    check_pattern(recipe)
    pattern = web_of_shape(last_shape(recipe))
    # Whoever takes the points out as they are summed out finds just the places of a line left.
    return (pattern, bags_along(pattern, tuple(range(len(pattern)))))


def recipe_of(pattern, bags, k):
    """A recipe for k whose pattern is the same as this one."""
    check_web(pattern)
    check_bags(pattern, bags)
    check_k(k)
    if width_of(bags) > k:
        raise InvalidOperation("the bags are too wide for k")
    recipe = written(pattern, bags[0], bags[1], k)
    if len(recipe) > MOST_LINES:
        raise TooMany(MOST_LINES)
    return recipe


def count_along(pattern, bags, web):
    """How many maps lead from the pattern into the web, counted along the bags."""
    check_web(pattern)
    check_bags(pattern, bags)
    check_web(web)
    if power_up_to(len(web), width_of(bags) + 1, MOST_ROWS) > MOST_ROWS:
        raise TooMany(MOST_ROWS)
    return maps_along(pattern, bags[0], bags[1], web)
