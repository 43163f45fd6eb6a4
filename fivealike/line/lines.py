"""Line recipes, rows of bags, and points of any sign."""
from fivealike.colour.fields import fields_of
from fivealike.colour.names import do_agree, numbers_up_to
from fivealike.errors import InvalidBags, TooMany
from fivealike.line.rows import are_row_bags_of, bags_by, best_order, line_along
from fivealike.line.spans import found_span, signed_point
from fivealike.pattern.closure import numbers_unlike
from fivealike.pattern.spaces import stable_space
from fivealike.plain import is_told
from fivealike.program.checked import is_signed_point_of, point_by_types
from fivealike.program.point import check_lesser
from fivealike.web.bits import near_bits
from fivealike.web.checks import check_k, check_level
from fivealike.web.webs import check_web
from fivealike.width.lines import depths_of
from fivealike.width.recipes import fits_work, places_open

MOST_LONG = 12


def is_line_of(k, value):
    """Whether the value is a line recipe for this, which is a k."""
    places = places_open(k, value)
    if places is None or places[len(places) - 1] != ():
        return False
    depths = depths_of(value)
    return all([line[0] != "glue" or min(depths[line[1]], depths[line[2]]) == 0 for line in value])


def is_line(k, value):
    """Whether the value is a line recipe for k."""
    check_k(k)
    return is_line_of(k, value)


def are_row_bags(web, value):
    """Whether the value is a row of bags of the web."""
    check_web(web)
    return are_row_bags_of(web, value)


def check_long(web):
    """Refuses what is no web that is small enough for a search."""
    check_web(web)
    if len(web) > MOST_LONG:
        raise TooMany(MOST_LONG)


def path_width(web):
    """The least width of a row of bags, -1 without points."""
    check_long(web)
    return best_order(web)[0] if len(web) > 0 else -1


def row_of_bags(web):
    """A row of bags of the least width."""
    check_long(web)
    return bags_by(near_bits(web), best_order(web)[1]) if len(web) > 0 else ()


def line_of(pattern, bags, k):
    """A line recipe whose number is how many maps the pattern has."""
    check_web(pattern)
    check_k(k)
    if not are_row_bags_of(pattern, bags) or not all([len(bag) <= k + 1 for bag in bags]):
        raise InvalidBags("a row of bags of the pattern, of a width of at most k, is asked for")
    return line_along(pattern, bags, k)


def check_spanned(one, other, k):
    """Refuses what are no webs and no k, and webs with too many rows."""
    check_level(one, other, k)
    check_lesser(one, other, k + 1)


def span_number(one, other, k):
    """How many tables a span has that are not spanned by others."""
    check_spanned(one, other, k)
    fields = fields_of((one, other), k)
    return len(found_span(stable_space(fields, numbers_up_to(fields, None)), False)[1])


def line_answer(one, other, k):
    """A point of any sign, or a line recipe with unlike numbers."""
    check_spanned(one, other, k)
    fields = fields_of((one, other), k)
    rounds = numbers_up_to(fields, None)
    if all([do_agree(names) for names in rounds]):
        return ("point", point_by_types(one, other, k, fields, rounds[-1]))
    span, rows = found_span(stable_space(fields, rounds), True)
    if rows is None:
        return ("line", span.recipe_of(len(span.tables) - 1))
    return ("point", signed_point(one, other, span, rows))


def is_line_answer(one, other, k, value):
    """Whether the value is a right answer of `line_answer`."""
    check_spanned(one, other, k)
    if is_told(value, "point"):
        return is_signed_point_of(one, other, k, value[1])
    if not is_told(value, "line") or not is_line_of(k, value[1]) or not fits_work(value[1], (one, other), k):
        return False
    return numbers_unlike(value[1], k, (one, other))
