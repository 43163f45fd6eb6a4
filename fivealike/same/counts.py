"""Quotients of patterns, numbers of one to one maps as sums of numbers of maps, and patterns that part webs."""
from fivealike.errors import InvalidOperation, TooMany
from fivealike.plain import is_ascending, is_told
from fivealike.same.finding import found_map
from fivealike.same.parting import parting_pattern
from fivealike.same.quotients import (fit_partings, is_fit, one_to_one_numbers, quotient_of, sum_told, told_numbers,
                                      weight_of)
from fivealike.web.checks import check_couple
from fivealike.web.maps import is_same, map_number
from fivealike.web.webs import Web, check_web, is_lot
from fivealike.width.bags import least_width

MOST_PARTED = 6
MOST_TOLD = 5


def check_few(pattern, most):
    """Refuses what is no web, and patterns of more points than this."""
    check_web(pattern)
    if len(pattern) > most:
        raise TooMany(most)


def is_parting(pattern, value):
    """Whether the value is a parting of this, which is a web."""
    if not isinstance(value, tuple) or not all([is_lot(pattern, lot) and lot != () for lot in value]):
        return False
    points = [point for lot in value for point in lot]
    return is_ascending(value) and sorted(points) == list(range(len(pattern)))


def check_fit(pattern, lots):
    """Refuses what is no web, and what is no fit parting of it."""
    check_web(pattern)
    if not is_parting(pattern, lots) or not is_fit(pattern, lots):
        raise InvalidOperation("a fit parting of the pattern is asked for")


def partings(pattern):
    """The ascending tuple of the fit partings."""
    check_few(pattern, MOST_PARTED)
    return tuple(fit_partings(pattern))


def quotient(pattern, lots):
    """The web with a point for each lot of a fit parting."""
    check_fit(pattern, lots)
    return quotient_of(pattern, lots)


def weight(pattern, lots):
    """The weight of a fit parting."""
    check_fit(pattern, lots)
    return weight_of(lots)


def one_to_one_sum(pattern):
    """Patterns and integers: the sum of these times the numbers of maps is the number of one to one maps."""
    check_few(pattern, MOST_PARTED)
    return sum_told(one_to_one_numbers(pattern))


def told_sum(pattern):
    """The same for one to one maps that lead untied points to untied ones."""
    check_few(pattern, MOST_TOLD)
    return sum_told(told_numbers(pattern))


def quotient_width(pattern):
    """The greatest of the least widths of all quotients, 0 for no point."""
    check_few(pattern, MOST_PARTED)
    webs = [quotient_of(pattern, lots) for lots in fit_partings(pattern)]
    return max([least_width(web) for web in webs] + [0])


def check_asked(one, other):
    """Refuses what are no webs, or have too many points."""
    check_couple(one, other)
    for web in (one, other):
        if len(web) > MOST_PARTED:
            raise TooMany(MOST_PARTED)


def pattern_answer(one, other):
    """A map that shows that the webs are the same, or a pattern with unlike numbers of maps."""
    check_asked(one, other)
    found = found_map(one, (), other, ())
    return ("same", found) if found is not None else ("pattern", parting_pattern(one, other))


def is_pattern_answer(one, other, value):
    """Whether the value is a right answer of `pattern_answer`."""
    check_asked(one, other)
    if is_told(value, "same"):
        return is_same(one, other, value[1])
    if not is_told(value, "pattern") or not isinstance(value[1], Web):
        return False
    pattern = value[1]
    if len(pattern) > max(len(one), len(other)):
        return False
    return map_number(pattern, one) != map_number(pattern, other)
