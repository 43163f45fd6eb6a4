"""The search for a spoiler's table by the names of rows."""
from fivealike.colour.fields import kinds_behind, rows_up_to


def first_unlike(rounds, here, there):
    """The first round at which rows of both webs, told by their indices, have unlike names."""
    for at in range(len(rounds)):
        if rounds[at][0][here] != rounds[at][1][there]:
            return at
    return len(rounds)


def points_by_kind(kinds):
    """A dict from each kind to the ascending list of the points of this kind."""
    found = {}
    for point, kind in enumerate(kinds):
        found.setdefault(kind, []).append(point)
    return found


def first_lots(one, other):
    """The points of the first kind in both webs of which they have unlike many."""
    for kind in one:
        right = other.get(kind, [])
        if len(one[kind]) != len(right):
            return (tuple(one[kind]), tuple(right))
    # There are points of some kind just in the other web then.
    return ((), tuple([other[kind] for kind in other if kind not in one][0]))


def met_pairs(webs, left, right):
    """The list of pairs of which each pairing has one, as left and right have unlike many points."""
    if len(left) > len(right):
        outside = [point for point in range(len(webs[1])) if point not in right]
        return [(point, partner) for point in left for partner in outside]
    outside = [point for point in range(len(webs[0])) if point not in left]
    return [(point, partner) for point in outside for partner in right]


def best_lots(webs, one, other):
    """The points of one kind in both webs, unlike many, with the fewest pairs to be looked at."""
    lots = [(one[kind], other.get(kind, [])) for kind in one]
    lots.extend([([], other[kind]) for kind in other if kind not in one])
    uneven = [(left, right) for left, right in lots if len(left) != len(right)]
    left, right = min([(pair_number(webs, left, right), left, right) for left, right in uneven])[1:]
    return (tuple(left), tuple(right))


def pair_number(webs, left, right):
    """How many pairs are to be looked at with these points, unlike many, on both sides."""
    if len(left) > len(right):
        return len(left) * (len(webs[1]) - len(right))
    return (len(webs[0]) - len(left)) * len(right)


class Search:
    """A spoiler's table that is being made, its positions told by the indices of both rows."""

    def __init__(self, webs, fields, rounds):
        self.webs = webs
        self.fields = fields
        self.rows = [rows_up_to(field.many, field.k) for field in fields]
        self.rounds = rounds
        # What has been worked out of rows, to be looked up: many positions have the same ones.
        self.lots = {}
        self.starts = {}
        self.atoms = {}
        self.entries = {}
        # For each position that is asked for the number of moves.
        self.asked = {}
        self.waiting = []
        self.ask(0, 0)

    def work(self):
        """Makes the entries of the first position and of all that are asked for."""
        while self.waiting != []:
            position = self.waiting.pop()
            self.entries[position] = self.entry_of(position)

    def ask(self, here, there):
        """Asks for the entry of the position of rows with these indices."""
        if (here, there) not in self.asked:
            self.asked[here, there] = first_unlike(self.rounds, here, there)
            self.waiting.append((here, there))

    def entry_of(self, position):
        """The entry of a position; those to which it leads are asked for."""
        here, there = position
        moves = self.asked[position]
        one = self.lots_behind(0, moves - 1, here)
        other = self.lots_behind(1, moves - 1, there)
        if moves == 1:
            # Kinds of the round 0 are unlike just if atoms are: all pairs end the game.
            left, right = first_lots(one, other)
            return (moves, left, right)
        left, right = best_lots(self.webs, one, other)
        pairs = met_pairs(self.webs, left, right)
        if here < self.fields[0].first_long:
            self.lead_short(here, there, pairs)
        else:
            self.lead_long(moves, position, pairs)
        return (moves, left, right)

    def lots_behind(self, which, depth, at):
        """A dict from what counts of points behind a row at the round to the points of this kind."""
        key = (which, depth, at)
        if key not in self.lots:
            names = self.rounds[depth][which]
            self.lots[key] = points_by_kind(kinds_behind(self.fields[which], names, self.rows[which][at]))
        return self.lots[key]

    def starts_behind(self, which, at):
        """For each place of a row of k points where the rows with a point behind its cut begin."""
        if (which, at) not in self.starts:
            self.starts[which, at] = self.fields[which].starts_of(self.rows[which][at])
        return self.starts[which, at]

    def atoms_behind(self, which, at):
        """For each point what tells the atom of the row of k points with it behind."""
        if (which, at) not in self.atoms:
            self.atoms[which, at] = self.fields[which].atoms_behind(self.rows[which][at])
        return self.atoms[which, at]

    def lead_short(self, here, there, pairs):
        """Asks for what rows of fewer than k points lead to."""
        first, last = here * len(self.webs[0]) + 1, there * len(self.webs[1]) + 1
        one, other = self.rounds[0]
        for point, partner in pairs:
            # Unlike names at the round 0 are unlike atoms, with which the keeper has lost.
            if one[first + point] == other[last + partner]:
                self.ask(first + point, last + partner)

    def lead_long(self, moves, position, pairs):
        """Asks for what rows of k points lead to, with a place left out."""
        starts = [self.starts_behind(which, position[which]) for which in (0, 1)]
        atoms, goals = [self.atoms_behind(which, position[which]) for which in (0, 1)]
        for point, partner in pairs:
            if atoms[point] == goals[partner]:
                cuts = [(here + point, there + partner) for here, there in zip(starts[0], starts[1])]
                self.ask_best(moves, cuts)

    def ask_best(self, moves, cuts):
        """Of those cuts that need fewer moves asks for that of the fewest, unless one is asked for."""
        if any([cut in self.asked and self.asked[cut] < moves for cut in cuts]):
            return
        _, here, there = min([(first_unlike(self.rounds, here, there), here, there) for here, there in cuts])
        self.ask(here, there)


def spoiler_table_told(webs, fields, rounds):
    """A spoiler's table of webs that are apart at one of these rounds, its positions ascending."""
    search = Search(webs, fields, rounds)
    search.work()
    one, other = search.rows
    table = {(one[at[0]], other[at[1]]): entry for at, entry in search.entries.items()}
    return {position: table[position] for position in sorted(table)}
