"""Checks of the arguments that are the same everywhere."""
from fivealike.errors import InvalidNumber, InvalidWeb, TooMany
from fivealike.plain import is_between
from fivealike.web.webs import Web, check_web

MOST_ROWS = 4096
# For each k the most points of a web with at most 4,096 rows of k + 1 points.
MOST_IN_ROWS = (4096, 64, 16, 8)
MOST_WEBS = 4
GREATEST_K = 3
GREATEST_DEPTH = 99


def check_webs(webs):
    """Refuses what is no tuple of one to four webs."""
    if not isinstance(webs, tuple) or not 1 <= len(webs) <= MOST_WEBS:
        raise InvalidWeb("a tuple of one to four webs is asked for")
    for web in webs:
        if not isinstance(web, Web):
            raise InvalidWeb("a tuple of one to four webs is asked for")


def check_k(k):
    """Refuses what is not 1, 2 or 3."""
    if not is_between(k, 1, GREATEST_K):
        raise InvalidNumber(k)


def check_couple(one, other):
    """Refuses what are no webs."""
    check_web(one)
    check_web(other)


def check_level(one, other, k):
    """Refuses what are no webs and no k."""
    check_couple(one, other)
    check_k(k)


def check_depth(depth):
    """Refuses what is no integer from 0 to 99."""
    if not is_between(depth, 0, GREATEST_DEPTH):
        raise InvalidNumber(depth)


def check_rows(webs, k):
    """Refuses webs with too many rows of k + 1 points."""
    for web in webs:
        if len(web) > MOST_IN_ROWS[k]:
            raise TooMany(MOST_ROWS)
