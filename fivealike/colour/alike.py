"""Whether two webs are alike or apart, with ladders and tables that show it."""
from fivealike.colour.apart import least_between, least_for_all
from fivealike.colour.fields import fields_of
from fivealike.colour.ladders import dicts_of, is_ladder_of, is_table_of, ladder_told
from fivealike.colour.names import rounds_to_part
from fivealike.plain import is_integer, is_told
from fivealike.web.checks import GREATEST_K, check_couple, check_depth, check_level, check_rows


def check_pair(one, other, k):
    """Refuses what are no webs and no k, and webs with too many rows."""
    check_level(one, other, k)
    check_rows((one, other), k)


def check_pair_to(one, other, k, depth):
    """Refuses what are no webs, no k and no depth, and webs with too many rows."""
    check_level(one, other, k)
    check_depth(depth)
    check_rows((one, other), k)


def is_apart(value, least):
    """Whether the value tells that the webs are apart from this round on."""
    if least is None or not is_told(value, "apart"):
        return False
    return is_integer(value[1]) and value[1] == least


def alike_answer(one, other, k, depth):
    """A ladder to the depth, or the least round from which on the webs are apart."""
    check_pair_to(one, other, k, depth)
    fields = fields_of((one, other), k)
    rounds, least = rounds_to_part(fields, depth)
    if least is not None:
        return ("apart", least)
    return ("alike", ladder_told(fields, rounds, depth))


def is_alike_answer(one, other, k, depth, value):
    """Whether the value is a right answer of `alike_answer`."""
    check_pair_to(one, other, k, depth)
    if is_told(value, "alike"):
        return is_ladder_of(one, other, k, depth, value[1])
    return is_apart(value, least_between(one, other, k, depth))


def for_ever(one, other, k):
    """A table, or the least round from which on the webs are apart."""
    check_pair(one, other, k)
    fields = fields_of((one, other), k)
    rounds, least = rounds_to_part(fields, None)
    if least is not None:
        return ("apart", least)
    return ("alike", dicts_of(fields, rounds[-1]))


def is_for_ever(one, other, k, value):
    """Whether the value is a right answer of `for_ever`."""
    check_pair(one, other, k)
    if is_told(value, "alike"):
        return is_table_of(one, other, k, value[1])
    return is_apart(value, least_between(one, other, k, None))


def is_ladder(one, other, k, depth, value):
    """Whether the value is a ladder to the depth."""
    check_pair_to(one, other, k, depth)
    return is_ladder_of(one, other, k, depth, value)


def is_table(one, other, k, value):
    """Whether the value is a table."""
    check_pair(one, other, k)
    return is_table_of(one, other, k, value)


def least_apart(one, other, k):
    """The least round from which on the webs are apart, None if there is none."""
    check_pair(one, other, k)
    return least_between(one, other, k, None)


def are_alike(one, other, k, depth):
    """Whether the webs are alike to the depth."""
    check_pair_to(one, other, k, depth)
    return least_between(one, other, k, depth) is None


def rounds_apart(one, other):
    """The tuple of the least rounds from which on the webs are apart for k = 1, 2 and 3."""
    check_couple(one, other)
    check_rows((one, other), GREATEST_K)
    return least_for_all(one, other)
