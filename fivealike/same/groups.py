"""All symmetries of a web, told by a few of them: for each point those that keep all lesser ones."""
from fivealike.same.finding import first_names, map_led, near_lists
from fivealike.same.refining import lot_to_part, refined, trace_of, with_fresh


def led_behind(first, second):
    """The map that leads where the second one leads behind the first one."""
    return tuple([second[image] for image in first])


def reached_from(point, makers, many):
    """A dict from all points to which the makers lead the point to maps made of them that do so."""
    reached = {point: tuple(range(many))}
    waiting = [point]
    while waiting != []:
        here = waiting.pop()
        for maker in makers:
            if maker[here] not in reached:
                reached[maker[here]] = led_behind(reached[here], maker)
                waiting.append(maker[here])
    return reached


class Stage:
    """The symmetries of a web that lead each name to itself, as far as they are found."""

    def __init__(self, near, names, makers):
        self.near = near
        self.names = names
        self.makers = list(makers)

    def find_from(self, point, images):
        """Finds makers enough for all of the images to which some symmetry leads the point; tells what is reached."""
        many = len(self.names)
        reached = reached_from(point, self.makers, many)
        missed = {}
        for image in images:
            if image not in reached and image not in missed:
                own = with_fresh(self.names, point)
                found = map_led(self.near, self.near, own, with_fresh(self.names, image))
                if found is None:
                    # What the makers reach from there is not reached from the point.
                    for there in reached_from(image, self.makers, many):
                        missed[there] = True
                else:
                    self.makers.append(found)
                    reached = reached_from(point, self.makers, many)
        return reached


def kept_names(web, row):
    """The refined names of the points, those of the row having names of their own."""
    names = first_names((web,), (row,))[0]
    near = near_lists(web)
    return refined(near, near, names, names)[0]


def ladder_of(web):
    """For each point a dict from those to which it is led by a symmetry that keeps all lesser ones to such."""
    many = len(web)
    near = near_lists(web)
    steps = []
    makers = []
    for point in reversed(range(many)):
        names = kept_names(web, tuple(range(point)))
        stage = Stage(near, names, makers)
        images = [image for image in range(point + 1, many) if names[image] == names[point]]
        steps.append(stage.find_from(point, images))
        makers = stage.makers
    return [steps[many - 1 - point] for point in range(many)]


def makers_of(ladder):
    """The list of the symmetries of a ladder, of which all symmetries are made."""
    return [symmetry for reached in ladder for symmetry in list(reached.values())]


def renamed_ties(ties, names):
    """The ascending tuple of the ties when each point i is called names[i]."""
    pairs = [(names[here], names[there]) for here, there in ties]
    return tuple(sorted([(min(pair), max(pair)) for pair in pairs]))


class Form:
    """The search for the least one of the renamed webs to which refined names lead."""

    def __init__(self, web):
        self.web = web
        self.near = near_lists(web)
        # The least one and the names that lead to it.
        self.best = None

    def work(self, names):
        """Looks at all renamed webs to which these names lead, up to symmetries."""
        own = refined(self.near, self.near, names, names)[0]
        lot = lot_to_part(self.near, own)
        if lot is None:
            self.look_at(own)
            return
        for point in self.unlike_points(own, lot):
            self.work(with_fresh(own, point))

    def unlike_points(self, names, lot):
        """Of the points of the lot with the least trace one for each of those that no symmetry leads to one another."""
        traces = [trace_of(self.near, names, point) for point in lot]
        least = min(traces)
        left = [point for point, trace in zip(lot, traces) if trace == least]
        stage = Stage(self.near, names, [])
        chosen = []
        while left != []:
            reached = stage.find_from(left[0], left)
            chosen.append(left[0])
            left = [point for point in left if point not in reached]
        return chosen

    def look_at(self, names):
        """Looks at the renamed web whose points have the sequence of these names."""
        order = [point for _, point in sorted([(name, here) for here, name in enumerate(names)])]
        places = [0] * len(order)
        for at, point in enumerate(order):
            places[point] = at
        told = (tuple([self.web.colours[point] for point in order]), renamed_ties(self.web.ties, places))
        if self.best is None or told < self.best[0]:
            self.best = (told, tuple(places))


def form_names(web):
    """Names with which the renamed web is the same for all webs that are the same."""
    form = Form(web)
    form.work(first_names((web,), ((),))[0])
    return form.best[1]
