"""Ladders and tables of two webs: integers for rows that follow those of the round below."""
from fivealike.colour.fields import fields_of, grow_fields, marks_by, row_number, rows_up_to
from fivealike.colour.names import do_agree, indices_of, names_there
from fivealike.plain import are_between, is_integer, is_pair
from fivealike.web.checks import GREATEST_DEPTH


def is_numbering(web, k, value):
    """Whether the value is a dict from just all rows of at most k points to integers."""
    if not isinstance(value, dict) or len(value) != row_number(len(web), k):
        return False
    if not all([is_integer(number) for number in list(value.values())]):
        return False
    # As many unlike rows as there are: so each one is there.
    return all([are_between(row, 0, len(web) - 1) and len(row) <= k for row in value])


def are_numberings(webs, k, value):
    """Whether the value is a pair of dicts, of one for each of both webs."""
    return is_pair(value) and all([is_numbering(web, k, own) for web, own in zip(webs, value)])


def numbers_of(rows, pair):
    """For each of both webs the list of the numbers that the dicts of the pair tell for its rows."""
    return [[own[row] for row in those] for those, own in zip(rows, pair)]


def with_lengths(rows, numbers):
    """For each of both webs the list of the pairs of a row's length and its number."""
    return [[(len(row), number) for row, number in zip(those, own)] for those, own in zip(rows, numbers)]


def do_tell(numbers, things):
    """Whether rows that have one number have one and the same thing told of them."""
    told = {}
    for own, those in zip(numbers, things):
        for number, thing in zip(own, those):
            if told.setdefault(number, thing) != thing:
                return False
    return True


def atoms_told(field):
    """The list of pairs of numbers that tell the atoms of all rows of the field."""
    found = []
    for length in range(field.k + 1):
        found.extend(list(zip(field.colours[length], field.patterns[length])))
    return found


def do_follow(fields, lower, upper):
    """Whether rows with one number have one, and the same counted behind them, a round below.

    The numbers stand beside the lengths of the rows; what is below of any length can be great.
    """
    index = indices_of(lower, 0)
    marks = []
    for field, own in zip(fields, lower):
        marks.append(marks_by(field, [index[number] for number in own], [True] * len(own)))
    return do_tell(upper, marks)


class Judge:
    """What is needed to judge numbers of the rows of two webs."""

    def __init__(self, one, other, k):
        self.fields = fields_of((one, other), k)
        self.rows = [rows_up_to(field.many, k) for field in self.fields]
        grow_fields(self.fields)

    def steps_of(self, pairs):
        """For each pair of dicts the numbers that it tells, beside the lengths of the rows."""
        return [with_lengths(self.rows, numbers_of(self.rows, pair)) for pair in pairs]

    def do_tell_atoms(self, numbers):
        """Whether rows of one length that have one number have one atom."""
        return do_tell(numbers, [atoms_told(field) for field in self.fields])


def is_table_of(one, other, k, value):
    """Whether the value is a table of these, which are webs."""
    if not are_numberings((one, other), k, value):
        return False
    judge = Judge(one, other, k)
    numbers = judge.steps_of([value])[0]
    if not do_agree(numbers) or not judge.do_tell_atoms(numbers):
        return False
    return do_follow(judge.fields, numbers, numbers)


def is_ladder_of(one, other, k, depth, value):
    """Whether the value is a ladder to the depth of these, which are webs."""
    if not isinstance(value, tuple) or len(value) != depth + 1:
        return False
    if not all([are_numberings((one, other), k, pair) for pair in value]):
        return False
    judge = Judge(one, other, k)
    steps = judge.steps_of(value)
    if not all([do_agree(numbers) for numbers in steps]) or not judge.do_tell_atoms(steps[0]):
        return False
    for at in range(depth):
        # A step that stands below, too, has been looked at there.
        is_new = at == 0 or steps[at] != steps[at - 1] or steps[at + 1] != steps[at]
        if is_new and not do_follow(judge.fields, steps[at], steps[at + 1]):
            return False
    return True


def is_some_ladder_of(one, other, k, value):
    """Whether the value is a ladder of these, which are webs, to some depth."""
    if not isinstance(value, tuple) or not 1 <= len(value) <= GREATEST_DEPTH + 1:
        return False
    return is_ladder_of(one, other, k, len(value) - 1, value)


def dict_of(rows, numbers):
    """The dict from the rows to these numbers."""
    return {row: number for row, number in zip(rows, numbers)}


def dicts_of(fields, names):
    """The tuple of the dicts from the rows of each field to their names."""
    return tuple([dict_of(rows_up_to(field.many, field.k), own) for field, own in zip(fields, names)])


def ladder_told(fields, rounds, depth):
    """The ladder of the names at all rounds from 0 to the depth."""
    rows = [rows_up_to(field.many, field.k) for field in fields]
    ladder = []
    for at in range(depth + 1):
        names = names_there(rounds, at)
        ladder.append((dict_of(rows[0], names[0]), dict_of(rows[1], names[1])))
    return tuple(ladder)


def least_round(rounds):
    """The first of the rounds at which the empty rows have unlike names, None if there is none."""
    for at in range(len(rounds)):
        if not do_agree(rounds[at]):
            return at
    return None
