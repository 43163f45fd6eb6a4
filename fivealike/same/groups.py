"""All symmetries of a web, told by a few of them: for each point those that keep all lesser ones."""
from fivealike.same.finding import Guide, Side, lot_to_part, map_along, names_by, refined, refined_behind, trace_of


def led_behind(first, second):
    """The map that leads where the second one leads behind the first one."""
    return tuple([second[image] for image in first])


def reached_from(point, makers, many):
    """A dict from all points to which the makers lead the point to maps made of them that do so."""
    reached = {point: tuple(range(many))}
    waiting = [point]
    while waiting != []:
        here = waiting.pop()
        for maker in makers:
            if maker[here] not in reached:
                reached[maker[here]] = led_behind(reached[here], maker)
                waiting.append(maker[here])
    return reached


class Head:
    """A point from which symmetries are looked for, what is seen if it is told apart, and the way from there on."""

    def __init__(self, point, trace, guide):
        self.point = point
        self.trace = trace
        self.guide = guide
        # A dict from all points to which it is led to symmetries that do so.
        self.reached = {}


class Orbits:
    """Which points the symmetries that lead each name to itself lead to one another, as far as it is asked.

    Of the points that were asked for some are heads: none of these is led to another one.
    """

    def __init__(self, side, names, makers):
        self.side = side
        self.names = names
        self.makers = list(makers)
        self.heads = []

    def head_of(self, point):
        """The head from which a symmetry leads to the point, perhaps the point itself."""
        for head in self.heads:
            if point in head.reached:
                return head
        rounds, names = refined_behind(self.side, self.names, point)
        trace = trace_of(rounds)
        for head in self.heads:
            if head.trace == trace:
                maker = map_along(head.guide, 0, self.side, names)
                if maker is not None:
                    self.add_maker(maker)
                    return head
        self.heads.append(Head(point, trace, Guide(self.side, names)))
        self.heads[-1].reached = reached_from(point, self.makers, self.side.many)
        return self.heads[-1]

    def add_maker(self, maker):
        """Adds one more symmetry, of which others are made."""
        self.makers.append(maker)
        for head in self.heads:
            head.reached = reached_from(head.point, self.makers, self.side.many)


def names_of_colours(side):
    """The refined names of all points, told apart by their colours."""
    index = names_by(sorted(side.colours))
    return refined(side, [index[colour] for colour in side.colours])[1]


def names_kept(side):
    """For each point the refined names of all points if all lesser ones have names of their own."""
    kept = []
    names = names_of_colours(side)
    for point in range(side.many):
        kept.append(names)
        if names.count(names[point]) > 1:
            names = refined_behind(side, names, point)[1]
    return kept


def ladder_of(side):
    """The ladder of symmetries of a web, and the list of those of which all symmetries are made.

    The ladder has for each point a dict from those to which it is led by a symmetry that keeps all lesser ones to such.
    """
    kept = names_kept(side)
    steps = []
    makers = []
    for point in reversed(range(side.many)):
        names = kept[point]
        images = [image for image in range(point + 1, side.many) if names[image] == names[point]]
        orbits = Orbits(side, names, makers)
        if images != []:
            first = orbits.head_of(point)
            for image in images:
                orbits.head_of(image)
            makers = orbits.makers
            steps.append(first.reached)
        else:
            steps.append({point: tuple(range(side.many))})
    return (steps[::-1], makers)


def renamed_ties(ties, names):
    """The ascending tuple of the ties when each point i is called names[i]."""
    pairs = [(names[here], names[there]) for here, there in ties]
    return tuple(sorted([(min(pair), max(pair)) for pair in pairs]))


class Form:
    """The search for the least one of the renamed webs to which refined names lead."""

    def __init__(self, side):
        self.side = side
        # The least one and the names that lead to it.
        self.best = None

    def work(self, names):
        """Looks at all renamed webs to which these refined names lead, up to symmetries."""
        lot = lot_to_part(self.side, names)
        if lot is None:
            self.look_at(names)
            return
        orbits = Orbits(self.side, names, [])
        for point in lot:
            orbits.head_of(point)
        least = min([head.trace for head in orbits.heads])
        for head in orbits.heads:
            if head.trace == least:
                self.work(head.guide.names[0])

    def look_at(self, names):
        """Looks at the renamed web whose points have the sequence of these names."""
        order = [point for _, point in sorted([(name, here) for here, name in enumerate(names)])]
        places = [0] * len(order)
        for at, point in enumerate(order):
            places[point] = at
        told = (tuple([self.side.colours[point] for point in order]), renamed_ties(self.side.ties, places))
        if self.best is None or told < self.best[0]:
            self.best = (told, tuple(places))


def form_names(web):
    """Names with which the renamed web is the same for all webs that are the same."""
    form = Form(Side(web))
    form.work(names_of_colours(form.side))
    return form.best[1]
