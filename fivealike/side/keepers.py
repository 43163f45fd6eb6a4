"""One side alone: a keeper's family, or a recipe that shows that there is none."""
from fivealike.errors import InvalidTable, TooMany
from fivealike.plain import is_told, power_up_to
from fivealike.program.partials import partners_in, points_in
from fivealike.say.truth import Grid
from fivealike.side.layers import Layers
from fivealike.side.lines import bits_of_line
from fivealike.side.parts import is_family_of, is_part_of
from fivealike.side.showing import recipe_shown
from fivealike.web.checks import check_couple, check_k, check_level, check_rows
from fivealike.web.webs import check_web
from fivealike.width.lines import lines_alone
from fivealike.width.recipes import MOST_WORK, fits_work, places_open

MOST_PARTS = 20000


def check_parts(one, other, k):
    """Refuses what are no webs and no k, and too many rows or parts."""
    check_level(one, other, k)
    check_rows((one, other), k)
    if power_up_to(len(one) * len(other) + 1, k, MOST_PARTS) > MOST_PARTS:
        raise TooMany(MOST_PARTS)


def is_part(one, other, value):
    """Whether the value is a part."""
    check_couple(one, other)
    return is_part_of(one, other, value)


def is_family(one, other, k, value):
    """Whether the value is a family for k."""
    check_level(one, other, k)
    return is_family_of(one, other, k, value)


def greatest_family(one, other, k):
    """The greatest family, None if there is none."""
    check_parts(one, other, k)
    layers = Layers(one, other, k)
    return layers.family() if layers.rank_of(()) is None else None


def least_depth(one, other, k):
    """The first layer that lacks the part without pairs, None if there is none."""
    check_parts(one, other, k)
    return Layers(one, other, k).rank_of(())


def side_answer(one, other, k):
    """A family, or a recipe of the least depth with a number above 0 on the one, and 0 on the other."""
    check_parts(one, other, k)
    layers = Layers(one, other, k)
    if layers.rank_of(()) is None:
        return ("family", layers.family())
    recipe = recipe_shown(one, other, k, layers)
    if not fits_work(recipe, (one, other), k):
        raise TooMany(MOST_WORK)
    return ("recipe", recipe)


def is_above_nought(recipe, k, web):
    """Whether this, which is a recipe for k, has a number above 0 on the web."""
    grid = Grid(web, k)
    bits = []
    for line in recipe:
        bits.append(bits_of_line(grid, line, bits))
    return bits[len(recipe) - 1] & 1 == 1


def is_side_answer(one, other, k, value):
    """Whether the value is a family, or a recipe with a number above 0 on the one, and 0 on the other."""
    check_parts(one, other, k)
    if is_told(value, "family"):
        return is_family_of(one, other, k, value[1])
    if not is_told(value, "recipe"):
        return False
    places = places_open(k, value[1])
    if places is None or places[len(places) - 1] != () or not fits_work(value[1], (one, other), k):
        return False
    recipe = lines_alone(value[1])
    return is_above_nought(recipe, k, one) and not is_above_nought(recipe, k, other)


def check_families(one, other, third, k, first, last):
    """Refuses what are no webs and no k, and what are no families."""
    for web in (one, other, third):
        check_web(web)
    check_k(k)
    if not is_family_of(one, other, k, first):
        raise InvalidTable("a family of the one into the other web is asked for")
    if not is_family_of(other, third, k, last):
        raise InvalidTable("a family of the other into the third web is asked for")


def led_through(one, other, third, k, first, last):
    """The family of all parts that come of a member of the first led on by one of the last family."""
    check_families(one, other, third, k, first, last)
    by_points = {}
    for part in last:
        by_points.setdefault(points_in(part), []).append(dict(part))
    found = {}
    for part in first:
        for images in by_points.get(tuple(sorted(set(partners_in(part)))), []):
            found[tuple([(here, images[there]) for here, there in part])] = True
    return tuple(sorted(found))
