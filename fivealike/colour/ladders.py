"""Ladders and tables of two webs: integers for rows that follow those of the round below."""
from fivealike.colour.fields import fields_of, row_number, rows_up_to
from fivealike.colour.names import all_behind, do_agree, names_there
from fivealike.plain import is_pair
from fivealike.web.checks import GREATEST_DEPTH


def is_numbering(many, k, size, value):
    """Whether the value is a dict from just all rows, of this number, of at most k of so many points to integers."""
    if not isinstance(value, dict) or len(value) != size:
        return False
    # As many unlike rows as there are: so each one is there.
    for row, number in value.items():
        if type(number) != int or not isinstance(row, tuple) or len(row) > k:
            return False
        for point in row:
            if type(point) != int or not 0 <= point < many:
                return False
    return True


def are_numberings(one, other, k, pairs):
    """Whether all of these are pairs of such dicts, of one for each of both webs."""
    many, others = len(one), len(other)
    size, other_size = row_number(many, k), row_number(others, k)
    for pair in pairs:
        if not is_pair(pair) or not is_numbering(many, k, size, pair[0]):
            return False
        if not is_numbering(others, k, other_size, pair[1]):
            return False
    return True


def do_tell(numbers, things):
    """Whether rows that have one number have one and the same thing told of them."""
    told = {}
    for own, those in zip(numbers, things):
        for number, thing in zip(own, those):
            if told.setdefault(number, thing) != thing:
                return False
    return True


def atoms_told(field):
    """The list of pairs of numbers that tell the atoms of all rows of the field."""
    found = []
    for length in range(field.k + 1):
        found.extend(list(zip(field.colours[length], field.patterns[length])))
    return found


class Judge:
    """What is needed to judge numbers of the rows of two webs."""

    def __init__(self, one, other, k):
        self.fields = fields_of((one, other), k)
        rows = rows_up_to(len(one), k)
        self.rows = (rows, rows if len(one) == len(other) else rows_up_to(len(other), k))

    def numbers_told(self, pair):
        """For each web the list of a small number for each row, equal for equal lengths and equal integers."""
        known = {}
        return [[known.setdefault((len(row), own[row]), len(known)) for row in rows]
                for rows, own in zip(self.rows, pair)]

    def do_begin(self, numbers):
        """Whether rows that have one number have one atom."""
        return do_tell(numbers, [atoms_told(field) for field in self.fields])

    def do_follow(self, lower, upper):
        """Whether rows with one number have one, and the same counted behind them, a round below.

        The numbers below tell atoms, as they follow, round by round, those of the round 0.
        """
        base = max([max(own) for own in lower]) + 1
        behind = [all_behind(field, own, base, [True] * len(own)) for field, own in zip(self.fields, lower)]
        return do_tell(upper, lower) and do_tell(upper, behind)


def is_table_of(one, other, k, value):
    """Whether the value is a table of these, which are webs."""
    if not are_numberings(one, other, k, (value,)):
        return False
    judge = Judge(one, other, k)
    numbers = judge.numbers_told(value)
    return do_agree(numbers) and judge.do_begin(numbers) and judge.do_follow(numbers, numbers)


def is_ladder_of(one, other, k, depth, value):
    """Whether the value is a ladder to the depth of these, which are webs."""
    if not isinstance(value, tuple) or len(value) != depth + 1:
        return False
    if not are_numberings(one, other, k, value):
        return False
    judge = Judge(one, other, k)
    steps = [judge.numbers_told(pair) for pair in value]
    if not all([do_agree(numbers) for numbers in steps]) or not judge.do_begin(steps[0]):
        return False
    for at in range(depth):
        # A step that stands below, too, has been looked at there.
        is_new = at == 0 or steps[at] != steps[at - 1] or steps[at + 1] != steps[at]
        if is_new and not judge.do_follow(steps[at], steps[at + 1]):
            return False
    return True


def is_some_ladder_of(one, other, k, value):
    """Whether the value is a ladder of these, which are webs, to some depth."""
    if not isinstance(value, tuple) or not 1 <= len(value) <= GREATEST_DEPTH + 1:
        return False
    return is_ladder_of(one, other, k, len(value) - 1, value)


def dicts_of(fields, names):
    """The tuple of the dicts from the rows of each field to their names."""
    return tuple([dict(zip(rows_up_to(field.many, field.k), own)) for field, own in zip(fields, names)])


def ladder_told(fields, rounds, depth):
    """The ladder of the names at all rounds from 0 to the depth."""
    rows = [rows_up_to(field.many, field.k) for field in fields]
    ladder = []
    for at in range(depth + 1):
        names = names_there(rounds, at)
        ladder.append((dict(zip(rows[0], names[0])), dict(zip(rows[1], names[1]))))
    return tuple(ladder)
