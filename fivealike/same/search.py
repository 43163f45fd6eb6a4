"""Whether two webs are the same: maps and tries, symmetries and forms."""
from math import factorial

from fivealike.errors import InvalidOperation, InvalidRow, TooMany
from fivealike.judge.graphs import Graph, are_rows_like
from fivealike.judge.sames import are_tries, are_tries_of
from fivealike.plain import are_between, is_told
from fivealike.same.finding import Side
from fivealike.same.groups import form_names, ladder_of, reached_from
from fivealike.same.refuting import answer_between, look_at, tries_for
from fivealike.web.checks import check_couple
from fivealike.web.maps import are_unlike, is_same
from fivealike.web.webs import check_point, check_web

MOST_SAME = 16


def graph_of_web(web):
    """The web as the checker sees it."""
    return Graph(web.colours, web.ties)


def check_unlike_row(web, row):
    """Refuses what is no tuple of unlike points of the web."""
    if not are_between(row, 0, len(web) - 1) or not are_unlike(row):
        raise InvalidRow("a tuple of unlike points of the web is asked for")


def check_small(webs):
    """Refuses webs with too many points for a search."""
    for web in webs:
        if len(web) > MOST_SAME:
            raise TooMany(MOST_SAME)


def check_one(web):
    """Refuses what is no web, or one with too many points."""
    check_web(web)
    check_small((web,))


def check_two(one, other):
    """Refuses what are no webs, or have too many points."""
    check_couple(one, other)
    check_small((one, other))


def check_rows_of(one, row, other, goal):
    """Refuses what are no webs and rows of them, and webs with too many points."""
    check_web(one)
    check_unlike_row(one, row)
    check_web(other)
    check_unlike_row(other, goal)
    check_small((one, other))


def are_rows_alike(one, row, other, goal):
    """Whether these, which are rows of these webs, are like."""
    return are_rows_like(graph_of_web(one), row, graph_of_web(other), goal)


def look_of(web, row, point):
    """The look of a point from a row: its colour, the places at which it stands, and those with tied points."""
    check_web(web)
    check_unlike_row(web, row)
    check_point(web, point)
    check_small((web,))
    return look_at(web, row, point)


def are_like_rows(one, row, other, goal):
    """Whether two rows of unlike points are as long and have equal colours and ties, place by place."""
    check_rows_of(one, row, other, goal)
    return are_rows_alike(one, row, other, goal)


def is_answer_between(one, row, other, goal, value):
    """Whether the value is a right answer of `answer_between`."""
    if is_told(value, "same"):
        return is_same(one, other, value[1]) and goal == tuple([value[1][point] for point in row])
    if not is_told(value, "unlike"):
        return False
    return are_tries_of(graph_of_web(one), row, graph_of_web(other), goal, value[1])


def same_answer(one, other):
    """A map that shows that the webs are the same, or tries of the empty rows."""
    check_two(one, other)
    return answer_between(one, (), other, ())


def is_same_answer(one, other, value):
    """Whether the value is a right answer of `same_answer`."""
    check_two(one, other)
    return is_answer_between(one, (), other, (), value)


def check_led(one, row, other, goal):
    """Refuses what nothing can be told of, and rows that are not like."""
    check_rows_of(one, row, other, goal)
    if not are_rows_alike(one, row, other, goal):
        raise InvalidOperation("rows that are like are asked for")


def led_answer(one, row, other, goal):
    """A map that shows that the webs are the same and leads the row to the goal, or tries of both."""
    check_led(one, row, other, goal)
    return answer_between(one, row, other, goal)


def is_led_answer(one, row, other, goal, value):
    """Whether the value is a right answer of `led_answer`."""
    check_led(one, row, other, goal)
    return is_answer_between(one, row, other, goal, value)


def is_tries(one, other, value):
    """Whether the value is tries, of some rows."""
    check_two(one, other)
    return are_tries(graph_of_web(one), graph_of_web(other), value)


def rows_for_step(point, image):
    """The rows that a step of a ladder of symmetries tells of: of all points up to the one, with its image last."""
    kept = tuple(range(point))
    return (kept + (point,), kept + (image,))


def step_told(side, graph, point, image, reached):
    """What a ladder of symmetries tells of a point and an image of this web, told the symmetries that there are."""
    if image in reached:
        return reached[image]
    row, goal = rows_for_step(point, image)
    return tries_for(side, row, side, goal) if are_rows_like(graph, row, graph, goal) else None


def symmetries_of(web):
    """A ladder of symmetries: for each point and each one from it on a symmetry, tries, or None."""
    check_one(web)
    many = len(web)
    side, graph = Side(web), graph_of_web(web)
    steps = []
    for point, reached in enumerate(ladder_of(side)[0]):
        steps.append(tuple([step_told(side, graph, point, image, reached) for image in range(point, many)]))
    return tuple(steps)


def is_step(web, point, image, value):
    """Whether the value is what a ladder of symmetries can tell of a point and an image."""
    row, goal = rows_for_step(point, image)
    if value is None:
        return not are_rows_alike(web, row, web, goal)
    if isinstance(value, dict):
        return are_tries_of(graph_of_web(web), row, graph_of_web(web), goal, value)
    return is_same(web, web, value) and value[:point + 1] == goal


def is_ladder_at(web, point, value):
    """Whether the value is what a ladder of symmetries can tell of a point."""
    images = list(range(point, len(web)))
    if not isinstance(value, tuple) or len(value) != len(images):
        return False
    return all([is_step(web, point, image, told) for image, told in zip(images, value)])


def are_symmetries(web, value):
    """Whether the value is a ladder of symmetries."""
    check_one(web)
    if not isinstance(value, tuple) or len(value) != len(web):
        return False
    return all([is_ladder_at(web, point, told) for point, told in enumerate(value)])


def symmetry_number(web):
    """How many symmetries the web has."""
    check_one(web)
    number = 1
    for reached in ladder_of(Side(web))[0]:
        number = number * len(reached)
    return number


def moved_points(web):
    """For each point the least one to which some symmetry leads it."""
    check_one(web)
    makers = ladder_of(Side(web))[1]
    return tuple([min(reached_from(point, makers, len(web))) for point in range(len(web))])


def form_of(web):
    """Names with which the renamed web is equal for all webs that are the same."""
    check_one(web)
    return form_names(web)


def renamed_number(web):
    """How many unlike webs there are among the renamed ones."""
    number = symmetry_number(web)
    return factorial(len(web)) // number
