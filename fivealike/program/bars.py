"""Multipliers that bar the mixed program, or show that some unknown is 0 at each of its points."""
from fivealike.colour.fields import fields_of, index_of
from fivealike.colour.names import numbers_up_to
from fivealike.errors import InvalidOperation
from fivealike.plain import is_integer, is_told
from fivealike.program.barring import multipliers_for
from fivealike.program.checked import is_point_of, point_by_types
from fivealike.program.partials import FIRST, SECOND, Couple, partners_in, points_in
from fivealike.program.point import check_lesser, check_partial
from fivealike.web.checks import check_level


def are_multipliers_of(one, other, k, value):
    """Whether the value is multipliers for these webs."""
    couple = Couple(one, other)
    if not isinstance(value, dict) or not all([couple.is_sum(k, total) for total in value]):
        return False
    return all([is_integer(number) and number != 0 for number in list(value.values())])


def coefficients_of(one, other, multipliers):
    """The dict from all partials with coefficients other than 0 to these."""
    couple = Couple(one, other)
    found = {}
    for total, number in multipliers.items():
        for member in couple.members(total):
            found[member] = found.get(member, 0) + number
        found[total[1]] = found.get(total[1], 0) - number
    return {partial: found[partial] for partial in sorted(found) if found[partial] != 0}


def do_refuse_it(one, other, k, partial, value):
    """Whether the value is multipliers that refuse the partial."""
    if not are_multipliers_of(one, other, k, value):
        return False
    found = coefficients_of(one, other, value)
    return partial in found and all([number > 0 for number in list(found.values())])


def are_multipliers(one, other, k, value):
    """Whether the value is multipliers."""
    check_level(one, other, k)
    return are_multipliers_of(one, other, k, value)


def check_multipliers(one, other, k, multipliers):
    """Refuses what are no multipliers."""
    check_level(one, other, k)
    if not are_multipliers_of(one, other, k, multipliers):
        raise InvalidOperation("multipliers of sums of the level k are asked for")


def coefficients(one, other, k, multipliers):
    """The dict from all partials with coefficients other than 0 to these."""
    check_multipliers(one, other, k, multipliers)
    return coefficients_of(one, other, multipliers)


def do_refuse(one, other, k, partial, value):
    """Whether the value is multipliers that refuse the partial."""
    check_level(one, other, k)
    check_partial(one, other, k, partial)
    return do_refuse_it(one, other, k, partial, value)


def are_bars(one, other, k, value):
    """Whether the value is bars: multipliers that refuse the partial without pairs."""
    check_level(one, other, k)
    return do_refuse_it(one, other, k, (), value)


def answer_for(one, other, k, partial, word):
    """A point at which the partial is above 0, or, with this word, multipliers that refuse it."""
    fields = fields_of((one, other), k)
    rounds = numbers_up_to(fields, None)
    here = rounds[-1][0][index_of(len(one), points_in(partial))]
    there = rounds[-1][1][index_of(len(other), partners_in(partial))]
    if here == there:
        return ("point", point_by_types(one, other, k, fields, rounds[-1]))
    return (word, multipliers_for(one, other, k, fields, rounds, partial))


def is_answer_for(one, other, k, partial, word, value):
    """Whether the value is a right answer of `answer_for`."""
    if is_told(value, "point"):
        return is_point_of(one, other, k, value[1]) and partial in value[1][1]
    return is_told(value, word) and do_refuse_it(one, other, k, partial, value[1])


def program_answer(one, other, k):
    """A point, or bars."""
    check_level(one, other, k)
    check_lesser(one, other, k + 1)
    return answer_for(one, other, k, (), "bars")


def is_program_answer(one, other, k, value):
    """Whether the value is a right answer of `program_answer`."""
    check_level(one, other, k)
    check_lesser(one, other, k + 1)
    return is_answer_for(one, other, k, (), "bars", value)


def partial_answer(one, other, k, partial):
    """A point at which the partial is above 0, or multipliers that refuse it."""
    check_level(one, other, k)
    check_partial(one, other, k, partial)
    check_lesser(one, other, k + 1)
    return answer_for(one, other, k, partial, "refused")


def is_partial_answer(one, other, k, partial, value):
    """Whether the value is a right answer of `partial_answer`."""
    check_level(one, other, k)
    check_partial(one, other, k, partial)
    check_lesser(one, other, k + 1)
    return is_answer_for(one, other, k, partial, "refused", value)


def turned_sum(total):
    """The sum for the webs exchanged."""
    word, partial, point = total
    return (SECOND if word == FIRST else FIRST, tuple(sorted([(there, here) for here, there in partial])), point)


def turned(one, other, k, multipliers):
    """The same multipliers for the webs exchanged."""
    check_multipliers(one, other, k, multipliers)
    found = {turned_sum(total): number for total, number in multipliers.items()}
    return {total: found[total] for total in sorted(found)}
