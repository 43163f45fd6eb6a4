"""The search for lines that are true with some rows of points, and false with others.

A spot is a row of points for some names in one of the webs: the pair of the web's index and the row.
The names are the first ones, or, for k points, all but one.
"""
from fivealike.errors import TooMany
from fivealike.say.kinds import cut_at
from fivealike.say.sentences import MOST_LINES, MOST_WITHIN, bits_of_line, lines_within, needed_alone
from fivealike.say.truth import Grid
from fivealike.web.bits import bits_of, how_many, points_of

# Lines can be written that are not needed in the end: so more are let for a while.
MOST_WRITTEN = 6000


class Writer:
    """Lines that are being written, with where they are true in some webs."""

    def __init__(self, webs, kinds):
        self.kinds = kinds
        self.k = kinds.k
        self.grids = [Grid(web, self.k) for web in webs]
        self.lines = []
        self.index = {}
        # For each line the bits of its free names.
        self.free = []
        self.depths = []
        # For each web the list of the bits of all lines.
        self.truths = [[] for _ in webs]
        self.sums = {}
        self.write_atoms(webs)

    def write_atoms(self, webs):
        """Writes all lines of which atoms are made."""
        names = list(range(self.k + 1))
        for high in names:
            for low in names[:high]:
                self.write(("tie", low, high))
                self.write(("same", low, high))
        colours = sorted(set([colour for web in webs for colour in web.colours]))
        # Where all points have one colour, it tells nothing.
        if len(colours) > 1:
            for colour in colours:
                for name in names:
                    self.write(("colour", name, colour))

    def write(self, line):
        """The index of the line, which is written if it is not there."""
        if line not in self.index:
            if len(self.lines) == MOST_WRITTEN:
                raise TooMany(MOST_LINES)
            self.index[line] = len(self.lines)
            self.lines.append(line)
            self.free.append(bits_of_line(self.k, line, self.free))
            within = lines_within(line)
            deepest = max([self.depths[at] for at in within]) if within != () else 0
            self.depths.append(deepest + 1 if line[0] == "least" else deepest)
            for grid, truths in zip(self.grids, self.truths):
                truths.append(grid.truth_of(line, truths))
        return self.index[line]

    def write_all(self, indices):
        """The index of a line that is true where all of these are."""
        left = list(indices)
        while len(left) != 1:
            left = left[MOST_WITHIN:] + [self.write(("all", tuple(left[:MOST_WITHIN])))]
        return left[0]

    def place_of(self, names, spot):
        """The place of the bit that tells of the spot."""
        return self.grids[spot[0]].place_of(names, spot[1])

    def told_lines(self, depth, names):
        """The list of the indices of the lines of at most this depth on these names that deny no other one."""
        others = ~bits_of(names)
        return [at for at, free in enumerate(self.free)
                if free & others == 0 and self.depths[at] <= depth and self.lines[at][0] != "not"]

    def parted(self, at, spot, others):
        """The pair of whether a line is true at a spot, and of the bits of the others where it is unlike.

        The spots are pairs of the web's index and the place of the bit.
        """
        here = self.truths[spot[0]][at] >> spot[1] & 1
        unlike = 0
        for bit, (which, place) in enumerate(others):
            if self.truths[which][at] >> place & 1 != here:
                unlike = unlike | 1 << bit
        return (here == 1, unlike)

    def known_lines(self, depth, names, spot, others):
        """Indices of lines that are true at the spot, and the bits of the others at which all of them are."""
        here = (spot[0], self.place_of(names, spot))
        there = [(other[0], self.place_of(names, other)) for other in others]
        told = {at: self.parted(at, here, there) for at in self.told_lines(depth, names)}
        left = (1 << len(others)) - 1
        chosen = []
        while left:
            worth = [(how_many(unlike & left), is_true or ("not", at) in self.index, -at)
                     for at, (is_true, unlike) in told.items() if unlike & left]
            most, _, less = max(worth, default=(0, False, 0))
            if most == 0:
                return (chosen, left)
            is_true, unlike = told[-less]
            chosen.append(-less if is_true else self.write(("not", -less)))
            left = left & ~unlike
        return (chosen, left)

    def lines_apart(self, depth, names, spot, others):
        """Indices of lines of at most this depth on these names, all true at the spot.

        At each of the others, of unlike kinds at the round with this number, some of them is false.
        """
        chosen, left = self.known_lines(depth, names, spot, others)
        while left:
            rest = points_of(left)
            asked = [others[at] for at in rest]
            if len(names) > self.k:
                fresh = self.cut_lines(depth, names, spot, asked)
            else:
                fresh = [self.fresh_line(depth, names, spot, asked)]
            chosen.extend(fresh)
            left = sum([1 << at for at in rest if self.are_true(fresh, names, others[at])])
        return chosen

    def are_true(self, indices, names, spot):
        """Whether all these lines are true at the spot."""
        place = self.place_of(names, spot)
        return all([self.truths[spot[0]][at] >> place & 1 for at in indices])

    def cut_lines(self, depth, names, spot, others):
        """Lines that part a row of k + 1 points from some others of the same atom, by one of its cuts."""
        kinds = [self.kinds.kind_at(depth, other) for other in others]
        own = self.kinds.kind_at(depth, spot)
        unlike = [[other for other, kind in zip(others, kinds) if kind[place + 1] != own[place + 1]]
                  for place in range(len(names))]
        place = max([(len(unlike[at]), at) for at in range(len(names))])[1]
        left = names[:place] + names[place + 1:]
        return self.lines_apart(depth, left, cut_at(spot, place), [cut_at(other, place) for other in unlike[place]])

    def fresh_line(self, depth, names, spot, others):
        """The index of a line that parts a row of at most k points from some of the others, by counting."""
        firsts = [self.kinds.first_unlike(spot, other, depth) for other in others]
        least = min(firsts)
        asked = [other for other, first in zip(others, firsts) if first == least]
        new = [name for name in range(self.k + 1) if name not in names][0]
        line = self.known_count(least - 1, names, new, spot, asked)
        return self.kind_count(least - 1, names, new, spot, asked) if line is None else line

    def counts_of(self, at, new, names, spots):
        """With how many points for the new name the line is true at each of the spots."""
        found = []
        for which, row in spots:
            key = (at, new, which)
            if key not in self.sums:
                self.sums[key] = self.grids[which].sums_over(new, self.truths[which][at])
            place = self.grids[which].place_of(names, row)
            found.append(sum([(digit >> place & 1) << bit for bit, digit in enumerate(self.sums[key])]))
        return found

    def known_count(self, depth, names, new, spot, others):
        """The index of a line that counts points of a line that is there, None if this parts none of the others."""
        best = (0, 0, 0)
        longer = names + (new,)
        for at in self.told_lines(depth, longer):
            if self.free[at] >> new & 1:
                own, *counts = self.counts_of(at, new, names, [spot] + others)
                fewer = len([count for count in counts if count < own])
                more = len([count for count in counts if count > own])
                if max(fewer, more) > best[0]:
                    best = (max(fewer, more), at, own if fewer >= more else -own - 1)
        if best[0] == 0:
            return None
        return self.write_count(best[2], new, best[1])

    def write_count(self, least, name, at):
        """The index of a line for at least so many points, below 0 of one that denies this for the opposite."""
        if least > 0:
            return self.write(("least", least, name, at))
        return self.write(("not", self.write(("least", -least, name, at))))

    def kind_count(self, depth, names, new, spot, others):
        """The index of a line that counts points of one kind at the round."""
        own = self.kinds.kinds_behind(depth, spot, new)
        theirs = [self.kinds.kinds_behind(depth, other, new) for other in others]
        least, goal, rest = self.best_kind(own, theirs)
        longer = tuple(sorted(names + (new,)))
        return self.write_count(least, new, self.write_all(self.lines_apart(depth, longer, goal, rest)))

    def best_kind(self, own, theirs):
        """The kind to be counted: the number for `write_count`, a row of it, and those it is to be parted from.

        Told are the rows behind the spot, by their kinds, and those behind each of the others.
        """
        found = []
        for kind in own:
            fewer = [kinds for kinds in theirs if len(kinds.get(kind, [])) < len(own[kind])]
            if fewer != []:
                found.append(self.kind_told(len(own[kind]), kind, own[kind][0], fewer))
        strange = {}
        for kinds in theirs:
            for kind in kinds:
                strange.setdefault(kind, kinds[kind][0])
        for kind in strange:
            many = len(own.get(kind, []))
            if max([len(kinds.get(kind, [])) for kinds in theirs]) > many:
                found.append(self.kind_told(-many - 1, kind, strange[kind], [own]))
        return min([(self.cost_of(goal, rest), at, least, goal, rest)
                    for at, (least, goal, rest) in enumerate(found)])[2:]

    def kind_told(self, least, kind, goal, lots):
        """The number, a row of the kind, and a row of each other kind that stands in one of the lots."""
        rest = {}
        for kinds in lots:
            for strange in kinds:
                if strange != kind:
                    rest.setdefault(strange, kinds[strange][0])
        return (least, goal, list(rest.values()))

    def cost_of(self, goal, rest):
        """A pair of how many rows have the atom of the goal, and of how many there are at all."""
        atom = self.kinds.kind_at(0, goal)
        return (len([other for other in rest if self.kinds.kind_at(0, other) == atom]), len(rest))

    def told_alone(self, indices):
        """A saying whose last line is true where all of these are."""
        lines = needed_alone(self.lines[:self.write_all(indices) + 1])
        if len(lines) > MOST_LINES:
            raise TooMany(MOST_LINES)
        return lines
