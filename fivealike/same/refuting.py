"""The search for tries, which show that no map of two webs leads one row to another."""
from fivealike.errors import TooMany
from fivealike.same.finding import Side, found_map
from fivealike.same.forks import Fork, look_told, looks_behind, looks_from
from fivealike.same.groups import Orbits, led_behind

MOST_TRIES = 4000
MANY_TRIES = 500
# A fork with all names alike is as much work as so many others. With so few ones tries are made again sooner than
# a symmetry is found that leads to them.
WORK_ALIKE = 3
FEW_FORKS = 4


def look_at(web, row, point):
    """The look of the point from the row."""
    at = [place for place, here in enumerate(row) if here == point]
    near = web.near(point)
    return (web.colours[point], tuple(at), tuple([place for place, here in enumerate(row) if here in near]))


def uneven_member(told, goals):
    """The least number that comes unequally often in two unlike sorted lists."""
    for here, there in zip(told, goals):
        if here != there:
            return min(here, there)
    return told[len(goals)] if len(told) > len(goals) else goals[len(told)]


class Branch:
    """Tries of two like rows and of all pairs of rows to which these lead."""

    def __init__(self, rows, told):
        # The pairs of a pair of rows and of what is told of it.
        self.pairs = [(rows, told)]
        # Other branches, each with a symmetry of the other web that leads it here, None if it is here.
        self.parts = []
        self.many = 1

    def put_in(self, tries, led):
        """Puts all of its pairs into tries, led by a symmetry of the other web, if it is not None."""
        for rows, told in self.pairs:
            tries[rows if led is None else (rows[0], led_behind(rows[1], led))] = told
        for part, own in self.parts:
            if own is None or led is None:
                part.put_in(tries, led if own is None else own)
            else:
                part.put_in(tries, led_behind(own, led))


class Refuter:
    """The search for tries, at most so many."""

    def __init__(self, sides, is_careful, most):
        self.sides = sides
        self.is_careful = is_careful
        self.most = most
        self.forks = 0
        # A map of the one web onto the other one, if it was met.
        self.found = None

    def count_more(self, branch, ahead, more):
        """Counts more tries of the branch; refuses too many, together with those ahead."""
        branch.many += more
        if ahead + branch.many > self.most:
            raise TooMany(self.most)

    def refute(self, rows, looks, others, ahead):
        """The branch of two like rows from which each look comes equally often; None if a map is met.

        It is told the looks from both, and how many tries there are ahead.
        """
        fork = Fork(self.sides, looks, others)
        self.found = fork.map_soon()
        if self.found is not None:
            return None
        self.forks += WORK_ALIKE if fork.is_alike else 1
        point = fork.best_point(rows[0], self.is_careful)
        branch = Branch(rows, ("point", point))
        row = rows[0] + (point,)
        for look, images in fork.endings_for(point, len(rows[0])):
            told = ("many", look)
            branch.pairs.extend([((row, rows[1] + (image,)), told) for image in images])
        self.count_more(branch, ahead, len(branch.pairs) - 1)
        behind = looks_behind(self.sides[0], looks, point)
        for lot in fork.lots_for(point):
            self.refute_lot(fork, branch, (row, rows[1]), behind, lot, ahead)
            if self.found is not None:
                return None
        return branch

    def refute_lot(self, fork, branch, rows, looks, lot, ahead):
        """Adds to the branch those of the rows with each point of a lot, of one last key, behind the other one.

        It is told the looks from the one.
        """
        orbits = Orbits(self.sides[1], fork.names[1], [])
        made = {}
        for image in lot:
            head = None if made == {} else orbits.head_of(image)
            if head is not None and head.point in made:
                part, led = made[head.point], head.reached[image]
            else:
                forks = self.forks
                others = looks_behind(self.sides[1], fork.looks[1], image)
                part, led = self.refute((rows[0], rows[1] + (image,)), looks, others, ahead + branch.many), None
                if part is None:
                    return
                if image != lot[-1] and (made != {} or self.forks - forks > FEW_FORKS):
                    made[orbits.head_of(image).point] = part
            branch.parts.append((part, led))
            self.count_more(branch, ahead, part.many)


def tries_within(sides, rows, looks, is_careful, most):
    """The pair of tries of two like rows and of None, or of None and a map that leads them.

    It is told the looks from both, of which each comes equally often, and how many tries there may be.
    """
    refuter = Refuter(sides, is_careful, most)
    branch = refuter.refute(rows, looks[0], looks[1], 0)
    if branch is None:
        return (None, refuter.found)
    tries = {}
    branch.put_in(tries, None)
    return ({pair: tries[pair] for pair in sorted(tries)}, None)


def tries_between(side, row, far, goal):
    """Such a pair, of tries that are not too many."""
    rows, looks = (row, goal), (looks_from(side, row), looks_from(far, goal))
    told, goals = sorted(looks[0]), sorted(looks[1])
    if told != goals:
        return ({rows: ("many", look_told(uneven_member(told, goals), len(row)))}, None)
    # With care the tries are mostly fewer, but it takes long to make them.
    for is_careful, most in ((False, MANY_TRIES), (True, MOST_TRIES)):
        try:
            return tries_within((side, far), rows, looks, is_careful, most)
        except TooMany:
            continue
    return tries_within((side, far), rows, looks, False, MOST_TRIES)


def tries_for(side, row, far, goal):
    """Tries of two like rows of two webs, which no map that shows that they are the same leads to one another."""
    return tries_between(side, row, far, goal)[0]


def answer_between(one, row, other, goal):
    """A map that shows that the webs are the same and leads the row to the goal, like it, or tries."""
    try:
        tries, found = tries_between(Side(one), row, Side(other), goal)
    except TooMany:
        # There can be a map all the same.
        found = found_map(one, row, other, goal)
        if found is None:
            raise
        return ("same", found)
    return ("unlike", tries) if found is None else ("same", found)
