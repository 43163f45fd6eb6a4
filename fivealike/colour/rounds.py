"""Rounds of rows: marks, names and types of the rows of webs side by side."""
from fivealike.colour.fields import as_dict, counted_behind, cuts_of, fields_of, many_names
from fivealike.colour.fields import names_there, rounds_up_to, with_cuts
from fivealike.colour.ladders import is_numbering
from fivealike.errors import InvalidNumber, InvalidRow
from fivealike.plain import counted, is_between
from fivealike.web.checks import check_depth, check_k, check_rows, check_webs
from fivealike.web.webs import atom_at, is_row_of


def check_asked(webs, k, depth):
    """Refuses what are no webs, no k and no depth."""
    check_webs(webs)
    check_k(k)
    check_depth(depth)


def check_which(webs, which):
    """Refuses what is no index of one of the webs."""
    if not is_between(which, 0, len(webs) - 1):
        raise InvalidNumber(which)


def dicts_of(fields, names):
    """The tuple of dicts from the rows of each field to their names."""
    return tuple([as_dict(field, own) for field, own in zip(fields, names)])


def names_at(webs, k, depth):
    """For each web the dict from its rows of at most k points to their names at the round."""
    check_asked(webs, k, depth)
    check_rows(webs, k)
    fields = fields_of(webs, k)
    return dicts_of(fields, names_there(rounds_up_to(fields, depth), depth))


def name_number(webs, k, depth):
    """How many names there are at the round."""
    check_asked(webs, k, depth)
    check_rows(webs, k)
    return many_names(names_there(rounds_up_to(fields_of(webs, k), depth), depth))


def mark_of(webs, k, depth, which, row):
    """The mark at the round of a row of the web with the index `which`."""
    check_asked(webs, k, depth)
    check_which(webs, which)
    if not is_row_of(webs[which], row) or len(row) > k:
        raise InvalidRow("a row of at most k points is asked for")
    check_rows(webs, k)
    if depth == 0:
        return atom_at(webs[which], row)
    fields = fields_of(webs, k)
    field = fields[which]
    names = names_there(rounds_up_to(fields, depth - 1), depth - 1)[which]
    at = field.index[row]
    if len(row) < k:
        return (names[at], counted_behind(field, names)[at])
    return (names[at], counted(with_cuts(field.longer[at - field.first_long], names)))


def type_of(webs, k, depth, which, row):
    """The pair of the atom of a row of k + 1 points and of the names of its cuts at the round."""
    check_asked(webs, k, depth)
    check_which(webs, which)
    if not is_row_of(webs[which], row) or len(row) != k + 1:
        raise InvalidRow("a row of k + 1 points is asked for")
    check_rows(webs, k)
    fields = fields_of(webs, k)
    names = names_there(rounds_up_to(fields, depth), depth)[which]
    return (atom_at(webs[which], row), tuple([names[fields[which].index[cut]] for cut in cuts_of(row)]))


def stable_round(webs, k):
    """The first round at which there are as many names as at the next one."""
    check_webs(webs)
    check_k(k)
    check_rows(webs, k)
    return len(rounds_up_to(fields_of(webs, k), None)) - 1


def stable_names(webs, k):
    """For each web the dict from its rows of at most k points to their names at the stable round."""
    check_webs(webs)
    check_k(k)
    check_rows(webs, k)
    fields = fields_of(webs, k)
    return dicts_of(fields, rounds_up_to(fields, None)[-1])


def are_one_to_one(pairs):
    """Whether no two of the pairs have just one member in common."""
    first = {}
    second = {}
    for here, there in pairs:
        if first.setdefault(here, there) != there or second.setdefault(there, here) != here:
            return False
    return True


def is_renaming(webs, k, depth, value):
    """Whether the value tells integers that are one for just those rows that have one name."""
    check_asked(webs, k, depth)
    check_rows(webs, k)
    if not isinstance(value, tuple) or len(value) != len(webs):
        return False
    if not all([is_numbering(web, k, own) for web, own in zip(webs, value)]):
        return False
    fields = fields_of(webs, k)
    names = dicts_of(fields, names_there(rounds_up_to(fields, depth), depth))
    return are_one_to_one([(own[row], told[row]) for own, told in zip(names, value) for row in own])
