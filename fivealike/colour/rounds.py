"""Rounds of rows: marks, names and types of the rows of webs side by side."""
from fivealike.colour.fields import cuts_of, fields_of, index_of, row_number
from fivealike.colour.ladders import dicts_of, is_numbering
from fivealike.colour.names import many_names, names_there, numbers_up_to, rounds_up_to
from fivealike.errors import InvalidNumber, InvalidRow
from fivealike.plain import counted, is_between
from fivealike.web.checks import check_depth, check_k, check_rows, check_webs
from fivealike.web.webs import atom_at, is_row_of


def check_asked(webs, k, depth):
    """Refuses what are no webs, no k and no depth."""
    check_webs(webs)
    check_k(k)
    check_depth(depth)


def check_which(webs, which):
    """Refuses what is no index of one of the webs."""
    if not is_between(which, 0, len(webs) - 1):
        raise InvalidNumber(which)


def names_at(webs, k, depth):
    """For each web the dict from its rows of at most k points to their names at the round."""
    check_asked(webs, k, depth)
    check_rows(webs, k)
    fields = fields_of(webs, k)
    return dicts_of(fields, names_there(rounds_up_to(fields, depth), depth))


def name_number(webs, k, depth):
    """How many names there are at the round."""
    check_asked(webs, k, depth)
    check_rows(webs, k)
    return many_names(names_there(numbers_up_to(fields_of(webs, k), depth), depth))


def mark_of(webs, k, depth, which, row):
    """The mark at the round of a row of the web with the index `which`."""
    check_asked(webs, k, depth)
    check_which(webs, which)
    if not is_row_of(webs[which], row) or len(row) > k:
        raise InvalidRow("a row of at most k points is asked for")
    check_rows(webs, k)
    if depth == 0:
        return atom_at(webs[which], row)
    names = names_there(rounds_up_to(fields_of(webs, k), depth - 1), depth - 1)[which]
    return (names[index_of(len(webs[which]), row)], counted(things_behind(webs[which], k, names, row)))


def things_behind(web, k, names, row):
    """The list of what counts of each point behind a row, by the names of all rows of the web."""
    many = len(web)
    if len(row) < k:
        begun = index_of(many, row) * many + 1
        return names[begun:begun + many]
    longer = [row + (point,) for point in range(many)]
    return [(atom_at(web, far), names_of_cuts(many, names, far)) for far in longer]


def names_of_cuts(many, names, row):
    """The tuple of the names of the rows that come of a row of k + 1 points by leaving a place out."""
    return tuple([names[index_of(many, cut)] for cut in cuts_of(row)])


def type_of(webs, k, depth, which, row):
    """The pair of the atom of a row of k + 1 points and of the names of its cuts at the round."""
    check_asked(webs, k, depth)
    check_which(webs, which)
    if not is_row_of(webs[which], row) or len(row) != k + 1:
        raise InvalidRow("a row of k + 1 points is asked for")
    check_rows(webs, k)
    names = names_there(rounds_up_to(fields_of(webs, k), depth), depth)[which]
    return (atom_at(webs[which], row), names_of_cuts(len(webs[which]), names, row))


def stable_round(webs, k):
    """The first round at which there are as many names as at the next one."""
    check_webs(webs)
    check_k(k)
    check_rows(webs, k)
    return len(numbers_up_to(fields_of(webs, k), None)) - 1


def stable_names(webs, k):
    """For each web the dict from its rows of at most k points to their names at the stable round."""
    check_webs(webs)
    check_k(k)
    check_rows(webs, k)
    fields = fields_of(webs, k)
    return dicts_of(fields, rounds_up_to(fields, None)[-1])


def are_one_to_one(pairs):
    """Whether no two of the pairs have just one member in common."""
    first = {}
    second = {}
    for here, there in pairs:
        if first.setdefault(here, there) != there or second.setdefault(there, here) != here:
            return False
    return True


def is_renaming(webs, k, depth, value):
    """Whether the value tells integers that are one for just those rows that have one name."""
    check_asked(webs, k, depth)
    check_rows(webs, k)
    if not isinstance(value, tuple) or len(value) != len(webs):
        return False
    if not all([is_numbering(len(web), k, row_number(len(web), k), own) for web, own in zip(webs, value)]):
        return False
    fields = fields_of(webs, k)
    names = dicts_of(fields, names_there(numbers_up_to(fields, depth), depth))
    return are_one_to_one([(own[row], told[row]) for own, told in zip(names, value) for row in own])
