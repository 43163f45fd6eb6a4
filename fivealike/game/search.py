"""The search for a spoiler's table by the names of rows."""
from fivealike.colour.fields import kinds_behind
from fivealike.game.moves import met_pairs


def first_unlike(rounds, here, there):
    """The first round at which rows of both webs, told by their indices, have unlike names."""
    for at in range(len(rounds)):
        if rounds[at][0][here] != rounds[at][1][there]:
            return at
    return len(rounds)


def points_by_kind(kinds):
    """A dict from each kind to the ascending list of the points of this kind."""
    found = {}
    for point, kind in enumerate(kinds):
        found.setdefault(kind, []).append(point)
    return found


def pair_number(webs, left, right):
    """How many pairs are to be looked at with these points, unlike many, on both sides."""
    if len(left) > len(right):
        return len(left) * (len(webs[1]) - len(right))
    return (len(webs[0]) - len(left)) * len(right)


def best_lots(webs, kinds):
    """The points of one kind in both webs, unlike many, with the fewest pairs to be looked at."""
    one, other = points_by_kind(kinds[0]), points_by_kind(kinds[1])
    found = []
    for kind in sorted(set(kinds[0] + kinds[1])):
        left, right = tuple(one.get(kind, [])), tuple(other.get(kind, []))
        if len(left) != len(right):
            found.append((pair_number(webs, left, right), left, right))
    return sorted(found)[0][1:]


class Search:
    """A spoiler's table that is being made, its positions told by the indices of both rows."""

    def __init__(self, webs, fields, rounds):
        self.webs = webs
        self.fields = fields
        self.rounds = rounds
        self.entries = {}
        self.asked = {(0, 0): True}
        self.waiting = [(0, 0)]

    def work(self):
        """Makes the entries of the first position and of all that are asked for."""
        while self.waiting != []:
            position = self.waiting.pop()
            self.entries[position] = self.entry_of(position)

    def ask(self, position):
        """Asks for the entry of a position."""
        if position not in self.asked:
            self.asked[position] = True
            self.waiting.append(position)

    def entry_of(self, position):
        """The entry of a position; those to which it leads are asked for."""
        here, there = position
        moves = first_unlike(self.rounds, here, there)
        names = self.rounds[moves - 1]
        kinds = (
            kinds_behind(self.fields[0], names[0], here),
            kinds_behind(self.fields[1], names[1], there),
        )
        left, right = best_lots(self.webs, kinds)
        pairs = met_pairs(self.webs[0], self.webs[1], left, right)
        if here < self.fields[0].first_long:
            self.lead_short(here, there, pairs)
        else:
            self.lead_long(moves, self.fields[0].cuts_behind(here), self.fields[1].cuts_behind(there), pairs)
        return (moves, left, right)

    def lead_short(self, here, there, pairs):
        """Asks for what rows of fewer than k points lead to."""
        first, last = here * len(self.webs[0]) + 1, there * len(self.webs[1]) + 1
        for point, partner in pairs:
            # Unlike names at the round 0 are unlike atoms, with which the keeper has lost.
            if first_unlike(self.rounds, first + point, last + partner) > 0:
                self.ask((first + point, last + partner))

    def lead_long(self, moves, behind, goals, pairs):
        """Asks for what rows of k points lead to, told what is behind both, with a place left out."""
        for point, partner in pairs:
            rank, cuts = behind[point]
            goal, ends = goals[partner]
            if rank == goal:
                self.ask(self.best_cut(moves, list(zip(cuts, ends))))

    def best_cut(self, moves, cuts):
        """Of those cuts that need fewer moves one that is asked for, else that of the fewest moves."""
        needed = [(first_unlike(self.rounds, here, there), (here, there)) for here, there in cuts]
        fewer = [cut for least, cut in sorted(needed) if least < moves]
        known = [cut for cut in fewer if cut in self.asked]
        return known[0] if known != [] else fewer[0]


def spoiler_table_told(webs, fields, rounds):
    """A spoiler's table of webs that are apart at one of these rounds, shorter rows ahead."""
    search = Search(webs, fields, rounds)
    search.work()
    rows = (fields[0].rows, fields[1].rows)
    # Indices of rows have the sequence that is asked for, shorter rows ahead.
    return {(rows[0][at[0]], rows[1][at[1]]): search.entries[at] for at in sorted(search.entries)}
