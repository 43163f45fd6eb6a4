"""Twisted webs: the even and the odd web of a base, and what tells them apart."""
from fivealike.errors import InvalidMap, InvalidOperation, Refused, TooMany
from fivealike.plain import is_told
from fivealike.twist.lifting import bit_table, changed_map, lifting_equations, point_number, points_over, ties_over
from fivealike.twist.solving import solution_number
from fivealike.web.checks import check_k
from fivealike.web.maps import is_map_of, is_same
from fivealike.web.webs import MOST_POINTS, Web, are_ties, check_web, piece_with
from fivealike.width.bags import check_few, is_bags_of, is_bramble_of, width_answer, width_of


def check_ties(base, ties):
    """Refuses what is no ascending tuple of ties of the base."""
    if not are_ties(ties, len(base)) or not all([base.is_tied(here, there) for here, there in ties]):
        raise InvalidOperation("an ascending tuple of ties of the base is asked for")


def check_hanging(base):
    """Refuses a base without a tie, in several pieces, or with too many points above it."""
    if base.ties == () or len(piece_with(base, 0)) != len(base):
        raise InvalidOperation("a base with a tie, all of whose points hang together, is asked for")
    if point_number(base) > MOST_POINTS:
        raise TooMany(MOST_POINTS)


def check_twisted(base, ties):
    """Refuses what is no base, and what are no ties of it."""
    check_web(base)
    check_ties(base, ties)
    check_hanging(base)


def is_even(ties, others):
    """Whether an even number of ties stands in just one of two ascending tuples."""
    return (len(ties) + len(others)) & 1 == 0


def twisted_by(base, ties):
    """The twisted web of this base and of these of its ties."""
    return Web(tuple([base.colours[point] for point, _ in points_over(base)]), tuple(ties_over(base, ties)))


def twisted(base, ties):
    """The twisted web of a base and of some of its ties."""
    check_twisted(base, ties)
    return twisted_by(base, ties)


def over(base):
    """The tuple of the pairs that are the points of the twisted webs of a base."""
    check_twisted(base, ())
    return tuple(points_over(base))


def map_between(base, ties, others):
    """A map that shows that the twisted webs of two lots of ties are the same, which they are."""
    return changed_map(base, [tie for tie in ties if tie not in others] + [tie for tie in others if tie not in ties])


def even_map(base, ties, others):
    """A map that shows that the twisted webs of two lots of ties are the same."""
    check_web(base)
    check_ties(base, ties)
    check_ties(base, others)
    check_hanging(base)
    if not is_even(ties, others):
        raise Refused(("odd",))
    return map_between(base, ties, others)


def section_number(base, ties):
    """How many maps lead the base into the twisted web, each point to one above itself."""
    check_twisted(base, ties)
    return 1 << len(base.ties) - len(base) + 1 if is_even(ties, ()) else 0


def lifted_number(base, ties, pattern, images):
    """How many maps lead the pattern into the twisted web, each point to one above its image."""
    check_web(base)
    check_ties(base, ties)
    check_web(pattern)
    if not is_map_of(pattern, base, images):
        raise InvalidMap("a map from the pattern into the base is asked for")
    check_hanging(base)
    bits = bit_table(base, images)
    return solution_number(len(bits), lifting_equations(base, ties, pattern, images, bits))


def check_asked(base, ties, k):
    """Refuses what nothing can be told of by bags and brambles."""
    check_web(base)
    check_ties(base, ties)
    check_k(k)
    check_hanging(base)
    check_few(base)


def twist_answer(base, ties, k):
    """What the twisted webs with these ties and with none are: the same, alike or apart; and a paper for it."""
    check_asked(base, ties, k)
    if is_even(ties, ()):
        return ("same", map_between(base, ties, ()))
    word, paper = width_answer(base, k)
    return ("apart" if word == "bags" else "alike", paper)


def is_twist_answer(base, ties, k, value):
    """Whether the value is a right answer of `twist_answer`."""
    check_asked(base, ties, k)
    if is_even(ties, ()):
        return is_told(value, "same") and is_same(twisted_by(base, ties), twisted_by(base, ()), value[1])
    if is_told(value, "apart"):
        return is_bags_of(base, value[1]) and width_of(value[1]) <= k
    return is_told(value, "alike") and is_bramble_of(base, k, value[1])
