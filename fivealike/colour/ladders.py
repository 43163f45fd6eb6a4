"""Ladders and tables of two webs: integers for rows that follow those of the round below."""
from fivealike.colour.fields import as_dict, counted_behind, fields_of, names_there, row_number
from fivealike.plain import are_between, is_integer, is_pair


def is_numbering(web, k, value):
    """Whether the value is a dict from just all rows of at most k points to integers."""
    if not isinstance(value, dict) or len(value) != row_number(len(web), k):
        return False
    if not all([is_integer(number) for number in list(value.values())]):
        return False
    # As many unlike rows as there are: so each one is there.
    return all([are_between(row, 0, len(web) - 1) and len(row) <= k for row in value])


def are_numberings(webs, k, value):
    """Whether the value is a pair of dicts, of one for each of both webs."""
    return is_pair(value) and all([is_numbering(web, k, own) for web, own in zip(webs, value)])


def numbers_of(fields, pair):
    """For each field the list of the numbers that the dicts of the pair tell."""
    return [[own[row] for row in field.rows] for field, own in zip(fields, pair)]


def do_tell(fields, numbers, things):
    """Whether rows of one length that have one number have one and the same thing told of them."""
    told = {}
    for field, own, those in zip(fields, numbers, things):
        for row, number, thing in zip(field.rows, own, those):
            if told.setdefault((len(row), number), thing) != thing:
                return False
    return True


def do_tell_atoms(fields, numbers):
    """Whether rows that have one number have one atom."""
    return do_tell(fields, numbers, [field.atoms for field in fields])


def do_follow(fields, lower, upper):
    """Whether rows with one number have one, and the same counted behind them, a round below."""
    behind = [counted_behind(field, own) for field, own in zip(fields, lower)]
    marks = [list(zip(own, counts)) for own, counts in zip(lower, behind)]
    return do_tell(fields, upper, marks)


def do_agree(numbers):
    """Whether the empty rows of both webs have one number."""
    return numbers[0][0] == numbers[1][0]


def is_table_of(one, other, k, value):
    """Whether the value is a table of these, which are webs."""
    if not are_numberings((one, other), k, value):
        return False
    fields = fields_of((one, other), k)
    numbers = numbers_of(fields, value)
    return do_agree(numbers) and do_tell_atoms(fields, numbers) and do_follow(fields, numbers, numbers)


def is_ladder_of(one, other, k, depth, value):
    """Whether the value is a ladder to the depth of these, which are webs."""
    if not isinstance(value, tuple) or len(value) != depth + 1:
        return False
    if not all([are_numberings((one, other), k, pair) for pair in value]):
        return False
    fields = fields_of((one, other), k)
    steps = [numbers_of(fields, pair) for pair in value]
    if not all([do_agree(numbers) for numbers in steps]) or not do_tell_atoms(fields, steps[0]):
        return False
    for at in range(depth):
        # A step that stands below, too, has been looked at there.
        is_new = at == 0 or steps[at] != steps[at - 1] or steps[at + 1] != steps[at]
        if is_new and not do_follow(fields, steps[at], steps[at + 1]):
            return False
    return True


def table_told(fields, names):
    """The pair of dicts from the rows of both fields to these names."""
    return (as_dict(fields[0], names[0]), as_dict(fields[1], names[1]))


def ladder_told(fields, rounds, depth):
    """The ladder of the names at all rounds from 0 to the depth."""
    return tuple([table_told(fields, names_there(rounds, at)) for at in range(depth + 1)])


def least_round(rounds):
    """The first of the rounds at which the empty rows have unlike names, None if there is none."""
    for at in range(len(rounds)):
        if not do_agree(rounds[at]):
            return at
    return None
