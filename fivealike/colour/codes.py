"""Codes of webs, each told of one web alone, and the classes and the parting tree of some webs."""
from fivealike.colour.fields import fields_of, row_number, rows_up_to
from fivealike.colour.names import first_names, names_there, parted, rounds_up_to
from fivealike.colour.patterns import FIRST_PAIRS, PAIR_BITS
from fivealike.errors import InvalidOperation, InvalidWeb
from fivealike.plain import are_between, counted, is_ascending, is_between, is_pair
from fivealike.web.bits import points_of
from fivealike.web.checks import check_depth, check_k, check_rows
from fivealike.web.webs import atom_at, check_web

MOST_FAMILY = 12
GREATEST_PASSED = 999999999
# The pairs of places in the sequence of their numbers, and the bits of all of them.
PLACE_PAIRS = ((0, 1), (0, 2), (1, 2), (0, 3), (1, 3), (2, 3))
EVERY_PAIR = 63


def check_family(webs, k):
    """Refuses what is no tuple of one to twelve webs, and what is no k."""
    if not isinstance(webs, tuple) or not 1 <= len(webs) <= MOST_FAMILY:
        raise InvalidWeb("a tuple of one to twelve webs is asked for")
    for web in webs:
        check_web(web)
    check_k(k)


def samples_of(names, many):
    """For each name that one of the first so many rows has, ascending, the index of the first of these rows."""
    found = {}
    for at, name in enumerate(names[:many]):
        found.setdefault(name, at)
    return [found[name] for name in sorted(found)]


class Marker:
    """The marks of the rows of a web, by the names of all rows at the round below."""

    def __init__(self, field):
        self.field = field
        self.rows = rows_up_to(field.many, field.k)
        # For each lot of pairs of places that was asked for their ascending tuple.
        self.lots = {}

    def pairs_in(self, lot):
        """The ascending tuple of the pairs of places that the bits tell."""
        if lot not in self.lots:
            self.lots[lot] = tuple(sorted([PLACE_PAIRS[at] for at in points_of(lot)]))
        return self.lots[lot]

    def atoms_behind(self, at):
        """The list of the atoms of the row of k points with this index and each point behind it."""
        row, web = self.rows[at], self.field.web
        colours = tuple([web.colours[point] for point in row])
        pattern = self.field.patterns[len(row)][at - self.field.first_long]
        found = []
        for colour, bits in zip(web.colours, self.field.bits_behind(row)):
            whole = pattern | bits << FIRST_PAIRS[len(row)]
            same, tied = self.pairs_in(whole >> PAIR_BITS), self.pairs_in(whole & EVERY_PAIR)
            found.append((colours + (colour,), same, tied))
        return found

    def mark(self, at, lower):
        """The mark of the row with this index, told the names at the round below."""
        many = self.field.many
        if at < self.field.first_long:
            return (lower[at], counted(lower[at * many + 1:at * many + many + 1]))
        own = lower[at]
        cuts = self.field.cuts_behind(lower, self.rows[at])
        names = list(zip(*cuts))
        return (own, counted([(atom, others + (own,)) for atom, others in zip(self.atoms_behind(at), names)]))


def first_level(web, rows, names, many):
    """The level of the round 0, told the names there, and how many rows are seen."""
    return tuple([(len(rows[at]), atom_at(web, rows[at])) for at in samples_of(names, many)])


def later_level(marker, lower, names, many):
    """The level of a later round, told the names at the round below, too."""
    # Shorter rows are named first, so names are the indices of what is seen.
    return tuple([(len(marker.rows[at]), marker.mark(at, lower)) for at in samples_of(names, many)])


def code_of(web, k, depth):
    """The code: for each round up to the depth what is seen of the web from its empty row."""
    check_web(web)
    check_k(k)
    check_depth(depth)
    check_rows((web,), k)
    fields = fields_of((web,), k)
    rounds = [names[0] for names in rounds_up_to(fields, depth)]
    marker = Marker(fields[0])
    levels = [first_level(web, marker.rows, rounds[0], row_number(len(web), min(k, depth)))]
    known = {}
    for at in range(1, depth + 1):
        key = (min(at, len(rounds)), min(k, depth - at))
        if key not in known:
            lower, names = names_there(rounds, at - 1), names_there(rounds, at)
            known[key] = later_level(marker, lower, names, row_number(len(web), key[1]))
        levels.append(known[key])
    return tuple(levels)


def name_number_in(names):
    """How many names there are, which need not be the first ones."""
    return len(set([name for own in names for name in own]))


def least_alike(indices, names):
    """A dict from the indices of webs to the least index of one whose empty row has the same name."""
    first = {}
    for at, own in zip(indices, names):
        first.setdefault(own[0], at)
    return {at: first[own[0]] for at, own in zip(indices, names)}


def class_rounds(webs, k, depth):
    """For each round up to the depth, or up to that at which it ends, the list that `classes` tells there."""
    heads = [[web == other for other in webs].index(True) for web in webs]
    left = sorted(set(heads))
    fields = fields_of([webs[at] for at in left], k)
    names = first_names(fields)
    rounds = [[0] * len(webs)]
    while len(left) > 1 and (depth is None or len(rounds) <= depth):
        later, marks = parted(fields, names)
        if len(marks) == name_number_in(names):
            return rounds
        found = least_alike(left, later)
        rounds.append([found.get(head, rounds[-1][head]) for head in heads])
        # A web that is alike to no other one needs no names.
        told = list(found.values())
        kept = [at for at, head in enumerate(left) if told.count(found[head]) > 1]
        left, fields, names = [left[at] for at in kept], [fields[at] for at in kept], [later[at] for at in kept]
    return rounds


def classes(webs, k, depth):
    """For each web the least index of a web that is alike to the depth."""
    check_family(webs, k)
    check_depth(depth)
    check_rows(webs, k)
    return tuple(class_rounds(webs, k, depth)[-1])


def first_round_apart(rounds, here, there):
    """The first of the rounds at which two webs are in unlike classes, None if there is none."""
    for at in range(len(rounds)):
        if rounds[at][here] != rounds[at][there]:
            return at
    return None


def apart_table(webs, k):
    """The rows, one for each web, of the least rounds from which on it and each web are apart."""
    check_family(webs, k)
    check_rows(webs, k)
    rounds = class_rounds(webs, k, None)
    indices = list(range(len(webs)))
    return tuple([tuple([first_round_apart(rounds, here, there) for there in indices]) for here in indices])


def tree_of(rounds, begun, indices):
    """The parting tree of the webs with these indices, which are alike at the rounds ahead of this one."""
    for at in range(begun, len(rounds)):
        lots = {}
        for index in indices:
            lots.setdefault(rounds[at][index], []).append(index)
        if len(lots) > 1:
            return (at, tuple([tree_of(rounds, at + 1, lot) for lot in list(lots.values())]))
    return tuple(indices)


def parting_tree(webs, k):
    """The parting tree of the webs."""
    check_family(webs, k)
    check_rows(webs, k)
    return tree_of(class_rounds(webs, k, None), 0, list(range(len(webs))))


def is_split(tree):
    """Whether the value is a pair of something and a tuple, as parting trees are that part."""
    return is_pair(tree) and isinstance(tree[1], tuple)


def indices_in(tree, least):
    """The ascending list of the indices in a parting tree with rounds from the least one on, None if it is none."""
    if not is_split(tree):
        return list(tree) if are_between(tree, 0, MOST_FAMILY - 1) and tree != () and is_ascending(tree) else None
    at, parts = tree
    if not is_between(at, least, GREATEST_PASSED) or len(parts) < 2:
        return None
    lots = [indices_in(part, at + 1) for part in parts]
    if None in lots or not is_ascending([lot[0] for lot in lots]):
        return None
    return sorted([index for lot in lots for index in lot])


def lots_at(tree, depth):
    """The list of the classes that a parting tree tells at the depth."""
    if not is_split(tree) or tree[0] > depth:
        return [tuple(indices_in(tree, 1))]
    return [lot for part in tree[1] for lot in lots_at(part, depth)]


def tree_classes(tree, depth):
    """The ascending tuple of the classes at the depth, told a parting tree."""
    found = indices_in(tree, 1)
    if found is None or found != list(range(len(found))) or len(found) > MOST_FAMILY:
        raise InvalidOperation("a parting tree of at most twelve webs is asked for")
    check_depth(depth)
    return tuple(sorted(lots_at(tree, depth)))
