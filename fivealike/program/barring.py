"""The search for multipliers that refuse a partial, along the rounds at which its rows become unlike."""
from fivealike.colour.fields import index_of, kinds_behind
from fivealike.game.search import best_lots
from fivealike.program.partials import FIRST, SECOND, Couple, partners_in, points_in, without_pair


def lots_by_kind(kinds, taken):
    """A dict from each kind to the list of its points, without those that are taken."""
    found = {}
    for point, kind in enumerate(kinds):
        if point not in taken:
            found.setdefault(kind, []).append(point)
    return found


class Barrer:
    """Multipliers that are being found, with their coefficients."""

    def __init__(self, one, other, k, fields, rounds):
        self.webs = (one, other)
        self.couple = Couple(one, other)
        self.k = k
        self.fields = fields
        self.rounds = rounds
        self.multipliers = {}
        self.coefficients = {}
        self.firsts = {}

    def first_unlike(self, partial):
        """The first round at which both rows of a partial of at most k pairs have unlike names, None if none is."""
        if partial not in self.firsts:
            here = index_of(self.fields[0].many, points_in(partial))
            there = index_of(self.fields[1].many, partners_in(partial))
            unlike = [at for at, (one, other) in enumerate(self.rounds) if one[here] != other[there]]
            self.firsts[partial] = unlike[0] if unlike != [] else None
        return self.firsts[partial]

    def count_in(self, total, number):
        """Adds a number to the multiplier of a sum."""
        self.multipliers[total] = self.multipliers.get(total, 0) + number
        for member in self.couple.members(total):
            self.coefficients[member] = self.coefficients.get(member, 0) + number
        self.coefficients[total[1]] = self.coefficients.get(total[1], 0) - number

    def refuse(self, partial):
        """Finds multipliers that refuse a partial of at most k pairs, whose rows have unlike names."""
        last = self.first_unlike(partial)
        self.lift(partial, last, 1)
        # What is lifted at a round puts coefficients below 0 just at partials that are unlike ahead.
        self.lift_long()
        for depth in reversed(range(1, last)):
            for low in self.low_at(depth):
                self.lift(low, depth, -self.coefficients[low])
            self.lift_long()

    def low_at(self, depth):
        """The ascending list of the partials of at most k pairs, unlike from this round on, that are below 0."""
        low = [partial for partial, number in self.coefficients.items() if number < 0 and len(partial) <= self.k]
        return sorted([partial for partial in low if self.first_unlike(partial) == depth])

    def lift(self, partial, depth, number):
        """Raises the coefficient of a partial, whose rows are unlike from this round on, by the number at least."""
        left, right = self.kind_to_count(partial, depth)
        step = len(left) - len(right)
        times = (number + abs(step) - 1) // abs(step)
        if step < 0:
            times = -times
        for point in left:
            self.count_in((FIRST, partial, point), -times)
        for partner in right:
            self.count_in((SECOND, partial, partner), times)

    def kind_to_count(self, partial, depth):
        """The points of a kind in both webs, unlike many, of which few pairs have just the wrong one of this kind."""
        names = self.rounds[depth - 1]
        rows = (points_in(partial), partners_in(partial))
        lots = [lots_by_kind(kinds_behind(self.fields[which], names[which], rows[which]), rows[which])
                for which in (0, 1)]
        return best_lots(self.webs, lots[0], lots[1])

    def lift_long(self):
        """Raises the coefficients of all partials of k + 1 pairs that are below 0, by parts that are unlike ahead."""
        low = [partial for partial, number in self.coefficients.items() if number < 0 and len(partial) > self.k]
        for partial in sorted(low):
            number = -self.coefficients[partial]
            if number > 0:
                firsts = [(self.first_unlike(without_pair(partial, at)), at) for at in range(len(partial))]
                at = min([(first, at) for first, at in firsts if first is not None])[1]
                self.count_in((FIRST, without_pair(partial, at), partial[at][0]), number)

    def told(self):
        """The multipliers other than 0, as a dict with ascending keys."""
        return {total: self.multipliers[total] for total in sorted(self.multipliers) if self.multipliers[total] != 0}


def multipliers_for(one, other, k, fields, rounds, partial):
    """Multipliers that refuse a partial of at most k pairs, whose rows have unlike names at the last round."""
    barrer = Barrer(one, other, k, fields, rounds)
    barrer.refuse(partial)
    return barrer.told()
