"""What several tests need: webs to test with, and a check of refusals."""
import itertools
import random

from fivealike.web.webs import Web

NO_WEB = Web((), ())
DOT = Web((0,), ())
RING = Web((0,) * 6, ((0, 1), (0, 5), (1, 2), (2, 3), (3, 4), (4, 5)))
TWO = Web((0,) * 6, ((0, 1), (0, 2), (1, 2), (3, 4), (3, 5), (4, 5)))
FORTY = Web((0,) * 40, ())
# Values of no kind that any function asks for, but of those that it may be given.
STRANGE = (None, True, False, -1, "a", "", (), [], {}, (None,), ((),), [0], {0: 0}, 10 ** 99, -(10 ** 99),
           ("alike", 0), ("bags", ()), {(): True}, (((((((),),),),),),))


def path(many, *marked):
    """A path of points of colour 0, but 1 for the marked ones."""
    colours = tuple([1 if point in marked else 0 for point in range(many)])
    return Web(colours, tuple([(point, point + 1) for point in range(many - 1)]))


def ring(many):
    """A ring of points of colour 0."""
    return Web((0,) * many, tuple(sorted([(point, point + 1) for point in range(many - 1)] + [(0, many - 1)])))


def full(many, colour=0):
    """A web in which all points are tied to all others."""
    ties = [(here, there) for here in range(many) for there in range(here + 1, many)]
    return Web((colour,) * many, tuple(ties))


def grid(many, long):
    """A web of so many rows of so many points, tied to those beside and below."""
    ties = []
    for point in range(many * long):
        if point % long < long - 1:
            ties.append((point, point + 1))
        if point + long < many * long:
            ties.append((point, point + long))
    return Web((0,) * (many * long), tuple(sorted(ties)))


def twisted(base, ties):
    """The twisted web of stage 17: points over those of the base, tied as the twisted ties of the base tell."""
    over = sorted([(point, lot) for point in range(len(base)) for many in range(0, len(base.near(point)) + 1, 2)
                   for lot in itertools.combinations(base.near(point), many)])
    tied = [(low, high) for low, high in itertools.combinations(range(len(over)), 2)
            if is_tied_over(base, ties, over[low], over[high])]
    return Web(tuple([base.colours[point] for point, _ in over]), tuple(tied))


def is_tied_over(base, ties, one, other):
    """Whether two points over those of the base are tied."""
    if not base.is_tied(one[0], other[0]):
        return False
    alike = (other[0] in one[1]) == (one[0] in other[1])
    return alike != ((min(one[0], other[0]), max(one[0], other[0])) in ties)


def some_web(seed, many, share=0.5, colours=(0,)):
    """A web that hangs on the seed alone."""
    source = random.Random(seed)
    pairs = [(here, there) for here in range(many) for there in range(here + 1, many)]
    ties = tuple([pair for pair in pairs if source.random() < share])
    return Web(tuple([source.choice(colours) for _ in range(many)]), ties)


def some_names(seed, many):
    """A tuple of so many integers from 0 on, each once, that hangs on the seed alone."""
    names = list(range(many))
    random.Random(seed).shuffle(names)
    return tuple(names)


def check_refused(case, error, function, *values, **more):
    """Fails unless the function refuses the values so; the error is an instance with what it keeps."""
    with case.assertRaises(type(error)) as caught:
        function(*values, **more)
    case.assertIs(type(caught.exception), type(error))
    for name in ("given", "wanted", "most", "reason", "at"):
        case.assertEqual(hasattr(caught.exception, name), hasattr(error, name))
        if hasattr(error, name):
            kept, asked = getattr(caught.exception, name), getattr(error, name)
            case.assertEqual((type(kept), kept), (type(asked), asked))
