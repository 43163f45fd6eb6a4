"""The names of all rows of webs that are looked at side by side, round by round."""
from fivealike.colour.fields import row_at
from fivealike.colour.patterns import PATTERN_BITS, ranks_of
from fivealike.plain import counted


def first_names(fields):
    """For each field the list of the names of its rows at the round 0."""
    names = [[0] for _ in fields]
    begun = 1
    for length in range(1, fields[0].k + 1):
        atoms = [atoms_in(field, length) for field in fields]
        index = indices_of(atoms, begun)
        for own, those in zip(names, atoms):
            own.extend([index[atom] for atom in those])
        begun += len(index)
    return names


def atoms_in(field, length):
    """The list of the numbers of the atoms of all rows of this length, in the sequence of atoms."""
    patterns = field.patterns[length]
    # Of at most two places there are so few patterns that these have this sequence themselves.
    ranks = patterns if length <= 2 else ranks_of(patterns)
    return [colours << PATTERN_BITS | rank for colours, rank in zip(field.colours[length], ranks)]


def indices_of(lists, begun):
    """A dict from all members of the lists, put in sequence, to their indices, which begin there."""
    members = sorted(set([member for members in lists for member in members]))
    return {member: begun + at for at, member in enumerate(members)}


def codes_of_one(field, numbers, base, wanted):
    """What `long_behind` tells for k = 1."""
    return [tuple(sorted([bits * base + number for bits, number in zip(row, numbers)])) if flag else ()
            for row, flag in zip(field.digits, wanted)]


def codes_of_two(field, numbers, base, wanted):
    """What `long_behind` tells for k = 2."""
    many = field.many
    cuts = [numbers[at:at + many] for at in range(0, len(numbers), max(many, 1))]
    weighed = [[number * base for number in cut] for cut in cuts]
    flags = [wanted[at:at + many] for at in range(0, len(wanted), max(many, 1))]
    return [tuple(sorted([one + two for one, two in zip(last, first)])) if flag else ()
            for first, those in zip(cuts, flags) for last, flag in zip(weighed, those)]


def codes_of_three(field, numbers, base, wanted):
    """What `long_behind` tells for k = 3."""
    many = field.many
    cuts = [numbers[at:at + many] for at in range(0, len(numbers), max(many, 1))]
    upper = [[number * base for number in cut] for cut in cuts]
    lower = [[number * base for number in cut] for cut in upper]
    found = []
    for at, own in enumerate(cuts):
        begun = at // many * many
        firsts = upper[begun:begun + many]
        seconds = lower[at % many * many:(at % many + 1) * many]
        for first, second, flag in zip(firsts, seconds, wanted[at * many:at * many + many]):
            if flag:
                found.append(tuple(sorted([one + two + three for one, two, three in zip(own, first, second)])))
            else:
                found.append(())
    return found


def long_behind(field, numbers, base, wanted):
    """For each row of k points, if it is wanted, a sorted tuple of numbers for what counts behind it.

    Told are the numbers of the rows of k points, all below the base, which tell atoms. A number behind a
    row tells those of its cuts: with that of the row itself, beside which it stands, these tell the atom.
    """
    if field.k == 1:
        return codes_of_one(field, numbers, base, wanted)
    if field.k == 2:
        return codes_of_two(field, numbers, base, wanted)
    return codes_of_three(field, numbers, base, wanted)


def all_behind(field, numbers, base, wanted):
    """For each row of at most k points, if it is wanted, a sorted tuple of numbers for what counts behind it."""
    many = field.many
    found = [tuple(sorted(numbers[at * many + 1:at * many + many + 1])) if flag else ()
             for at, flag in enumerate(wanted[:field.first_long])]
    found.extend(long_behind(field, numbers[field.first_long:], base, wanted[field.first_long:]))
    return found


def parted(fields, names):
    """For each field the list of numbers of its rows, equal just for equal marks at the next round; and all marks.

    The number of a row is the index of its mark: a pair of its name and of what counts behind it.
    """
    often = {}
    for own in names:
        for name in own:
            often[name] = often.get(name, 0) + 1
    base = max(often) + 1
    known = {}
    told = []
    for field, own in zip(fields, names):
        # Whoever has a name alone keeps it alone: nothing else needs to be told of it.
        behind = all_behind(field, own, base, [often[name] > 1 for name in own])
        told.append([known.setdefault(mark, len(known)) for mark in zip(own, behind)])
    return (told, list(known))


def places_of_marks(fields, names, told, marks):
    """The list of the places of these marks in the sequence of marks, told which of them each row has."""
    lots = {}
    for at, (name, _) in enumerate(marks):
        lots.setdefault(name, []).append(at)
    samples = {}
    for which, those in enumerate(told):
        for index, at in enumerate(those):
            samples.setdefault(at, (which, index))
    places = [0] * len(marks)
    begun = 0
    for name in sorted(lots):
        lot = lots[name]
        if len(lot) > 1:
            counts = [(counted_behind(fields, names, samples[mark]), mark) for mark in lot]
            lot = [mark for _, mark in sorted(counts)]
        for at in lot:
            places[at] = begun
            begun += 1
    return places


def counted_behind(fields, names, sample):
    """What is counted behind a row of one of the fields: it has the sequence that marks ask for."""
    which, index = sample
    field, own = fields[which], names[which]
    many = field.many
    if index < field.first_long:
        return counted(own[index * many + 1:index * many + many + 1])
    row = row_at(many, index)
    cuts = field.cuts_behind(own, row)
    return counted(list(zip(field.ranks_behind(row), *cuts)))


def many_names(names):
    """How many names there are at a round."""
    return max([max(own) for own in names]) + 1


def do_agree(numbers):
    """Whether the empty rows of both webs have one number."""
    return numbers[0][0] == numbers[1][0]


def are_apart_next(fields, names):
    """Whether both empty rows have unlike names at the round behind that of these names."""
    one, other = [sorted(own[1:field.many + 1]) for field, own in zip(fields, names)]
    return one != other


def rounds_up_to(fields, depth):
    """The list of the names at the rounds up to the depth, but at most to the stable one.

    At all rounds behind the stable one the names are those of the stable one: the marks then
    have the sequence of the names that they begin with. For the depth None it comes last.
    """
    return rounds_of(fields, depth, True)


def numbers_up_to(fields, depth):
    """The same, but at rounds from 1 on with other numbers that part the same rows in the place of names."""
    return rounds_of(fields, depth, False)


def rounds_of(fields, depth, are_names):
    """The one or the other of these lists."""
    # Equal webs have equal names: so these are found for one of them.
    heads = [[field.web == other.web for other in fields].index(True) for field in fields]
    alone = sorted(set(heads))
    rounds = rounds_alone([fields[at] for at in alone], depth, are_names, False)
    if len(alone) == len(fields):
        return rounds
    places = [alone.index(head) for head in heads]
    return [[names[place] for place in places] for names in rounds]


def rounds_to_part(fields, depth):
    """The pair of a list of `numbers_up_to` and of the least round up to the depth from which on both webs are apart.

    If there is such a round, and not None, the list ends with the round ahead of it.
    """
    if fields[0].web == fields[1].web:
        return (numbers_up_to(fields, depth), None)
    rounds = rounds_alone(fields, depth, False, True)
    is_apart = (depth is None or len(rounds) <= depth) and are_apart_next(fields, rounds[-1])
    return (rounds, len(rounds) if is_apart else None)


def rounds_alone(fields, depth, are_names, to_part):
    """Such a list for fields of unlike webs; if asked for, it ends with the last round at which two are alike."""
    rounds = [first_names(fields)]
    while depth is None or len(rounds) <= depth:
        if to_part and are_apart_next(fields, rounds[-1]):
            return rounds
        told, marks = parted(fields, rounds[-1])
        if len(marks) == many_names(rounds[-1]):
            return rounds
        if are_names:
            places = places_of_marks(fields, rounds[-1], told, marks)
            told = [[places[at] for at in those] for those in told]
        rounds.append(told)
    return rounds


def names_there(rounds, depth):
    """The names at the round with this number, of rounds up to it or to the stable one."""
    return rounds[min(depth, len(rounds) - 1)]
