"""The names of all rows of webs that are looked at side by side, round by round."""
from fivealike.colour.fields import grow_fields, marks_by, ranks_for
from fivealike.plain import counted


def first_names(fields):
    """For each field the list of the names of its rows at the round 0."""
    names = [[] for _ in fields]
    begun = 0
    for length in range(fields[0].k + 1):
        ranks = ranks_for(fields, length)
        step = len(ranks)
        atoms = [[colours * step + ranks[pattern] for colours, pattern
                  in zip(field.colours[length], field.patterns[length])] for field in fields]
        index = indices_of(atoms, begun)
        for own, those in zip(names, atoms):
            own.extend([index[atom] for atom in those])
        begun += len(index)
    return names


def indices_of(lists, begun):
    """A dict from all members of the lists, put in sequence, to their indices, which begin there."""
    known = {}
    for members in lists:
        for member in members:
            known[member] = True
    return {member: begun + at for at, member in enumerate(sorted(known))}


def next_names(fields, names):
    """For each field the list of the names at the next round."""
    often = {}
    for own in names:
        for name in own:
            often[name] = often.get(name, 0) + 1
    # Whoever has a name alone keeps it alone: nothing else needs to be told of it.
    marks = [marks_by(field, own, [often[told] > 1 for told in own]) for field, own in zip(fields, names)]
    index = names_of_marks(marks)
    return [[index[mark] for mark in those] for those in marks]


def names_of_marks(marks):
    """A dict from all marks to their names: their places in the sequence of marks."""
    by_name = {}
    for those in marks:
        for name, behind in those:
            by_name.setdefault(name, {})[behind] = True
    index = {}
    for name in sorted(by_name):
        alike = list(by_name[name])
        if len(alike) > 1:
            # The sequence of marks is that of what is counted.
            told = sorted([(counted(behind), behind) for behind in alike])
            alike = [behind for _, behind in told]
        for behind in alike:
            index[name, behind] = len(index)
    return index


def many_names(names):
    """How many names there are at a round."""
    return max([max(own) for own in names]) + 1


def do_agree(numbers):
    """Whether the empty rows of both webs have one number."""
    return numbers[0][0] == numbers[1][0]


def rounds_of(fields, depth, until_apart):
    """The list of the names at the rounds up to the depth, but at most to the stable one.

    At all rounds behind the stable one the names are those of the stable one: the marks then
    have the sequence of the names that they begin with. For the depth None it comes last.
    If asked for, the list ends with the first round at which the empty rows have unlike names.
    """
    rounds = [first_names(fields)]
    while depth is None or len(rounds) <= depth:
        grow_fields(fields)
        later = next_names(fields, rounds[-1])
        if many_names(later) == many_names(rounds[-1]):
            return rounds
        rounds.append(later)
        if until_apart and not do_agree(later):
            return rounds
    return rounds


def rounds_up_to(fields, depth):
    """The list of the names at the rounds up to the depth or to the stable round."""
    return rounds_of(fields, depth, False)


def rounds_until_apart(fields, depth):
    """The same, but at most to the first round at which both empty rows have unlike names."""
    return rounds_of(fields, depth, True)


def names_there(rounds, depth):
    """The names at the round with this number, of rounds up to it or to the stable one."""
    return rounds[min(depth, len(rounds) - 1)]
