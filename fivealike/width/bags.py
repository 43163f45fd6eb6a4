"""Bags of webs, and the brambles that bar them."""
from itertools import combinations

from fivealike.errors import InvalidBags, InvalidNumber, InvalidOperation, TooMany
from fivealike.plain import are_between, is_between, is_pair, is_told
from fivealike.web.bits import bits_of, near_bits, points_of
from fivealike.web.webs import check_web, is_lot
from fivealike.width.brambles import least_lots, settle
from fivealike.width.clearing import Clearing, are_touching, do_touch
from fivealike.width.flaps import Flaps, around, hangs_together, holding, pieces_in
from fivealike.width.orders import Lumps, easy_order

MOST_WIDE = 12
MOST_BAGS = 100
GREATEST_WIDTH = 11
NO_BAGS = (((),), (None,))


def comes_up(above, at):
    """Whether one comes up from this bag to the one without a bag above."""
    here = at
    for _ in range(len(above)):
        if above[here] is None:
            return True
        here = above[here]
    return False


def is_above(value, many):
    """Whether the value tells for each of so many bags one above, for just one of them none."""
    if not isinstance(value, tuple) or len(value) != many:
        return False
    told = [at for at in value if at is not None]
    if len(told) != many - 1 or not are_between(tuple(told), 0, many - 1):
        return False
    return all([comes_up(value, at) for at in range(many)])


def tops_of(bags, above, point):
    """How many bags with the point have none above that has it, too."""
    held = [at for at in range(len(bags)) if point in bags[at]]
    return len([at for at in held if above[at] is None or point not in bags[above[at]]])


def is_bags_of(web, value):
    """Whether the value is bags of this, which is a web."""
    if not is_pair(value):
        return False
    bags, above = value
    if not isinstance(bags, tuple) or not 1 <= len(bags) <= MOST_BAGS:
        return False
    if not all([is_lot(web, bag) for bag in bags]) or not is_above(above, len(bags)):
        return False
    for here, there in web.ties:
        if not any([here in bag and there in bag for bag in bags]):
            return False
    # A point in no bag has no top at all.
    return all([tops_of(bags, above, point) == 1 for point in range(len(web))])


def width_of(bags):
    """The width of these, which are bags."""
    return max([len(bag) for bag in bags[0]]) - 1


def is_bags(web, value):
    """Whether the value is bags of the web."""
    check_web(web)
    return is_bags_of(web, value)


def check_bags(web, bags):
    """Refuses what are no bags of the web."""
    if not is_bags_of(web, bags):
        raise InvalidBags("bags of the web are asked for")


def bags_width(web, bags):
    """The width of bags of the web."""
    check_web(web)
    check_bags(web, bags)
    return width_of(bags)


def check_few(web):
    """Refuses what is no web that is small enough for a search."""
    if len(web) > MOST_WIDE:
        raise TooMany(MOST_WIDE)


def check_asked(web, k):
    """Refuses what are no web and no k of this stage."""
    check_web(web)
    if not is_between(k, 0, GREATEST_WIDTH):
        raise InvalidNumber(k)
    check_few(web)


def leave_some(points, many, held):
    """Whether all lots of so many of the points leave one of the lots that are held unmet."""
    whole = bits_of(points)
    return all([held >> (whole & ~bits_of(some)) & 1 for some in combinations(points, many)])


def is_bramble_of(web, k, value):
    """Whether the value is a bramble above k of this, which is a web."""
    if not isinstance(value, tuple) or not all([is_lot(web, lot) for lot in value]):
        return False
    tied = near_bits(web)
    lots = sorted(set([bits_of(lot) for lot in value]))
    if not all([lot != 0 and hangs_together(tied, lot) for lot in lots]):
        return False
    held = holding(len(web), lots)
    # A lot that meets all of them still does so with more points in it.
    many = min(k + 1, len(web))
    return are_touching(tied, lots, held) and leave_some(list(range(len(web))), many, held)


def is_bramble(web, k, value):
    """Whether the value is a bramble above k."""
    check_asked(web, k)
    return is_bramble_of(web, k, value)


def hang_bags(clearing, whole):
    """Bags of a width of at most k, where all pieces of the whole are cleared."""
    bags = []
    above = []
    # The pieces of the web have no point in common: their bags can hang in a row.
    waiting = [(whole[at], at - 1 if at > 0 else None) for at in range(len(whole))]
    done = 0
    while done < len(waiting):
        bits, upper = waiting[done]
        point = clearing.step_of(bits)
        bags.append(points_of(around(clearing.tied, bits) | 1 << point))
        above.append(upper)
        for piece in clearing.left_by(bits, point):
            waiting.append((piece, done))
        done += 1
    return (tuple(bags), tuple(above)) if bags != [] else NO_BAGS


def searched_answer(tied, k, whole):
    """Bags of a width of at most k, or a bramble above k, found among all lots that hang together."""
    clearing = Clearing(tied, k)
    if clearing.are_cleared(whole):
        return ("bags", hang_bags(clearing, whole))
    lots = clearing.largest_lots(k + 1)
    if not do_touch(tied, lots):
        flaps = Flaps(tied, k)
        settle(flaps, whole)
        lots = least_lots(flaps)
    return bramble_told(lots)


def bramble_told(lots):
    """The answer with these lots, told by their bits."""
    return ("bramble", tuple(sorted([points_of(bits) for bits in lots])))


def width_answer(web, k):
    """Bags of a width of at most k, or a bramble above k."""
    check_asked(web, k)
    tied = near_bits(web)
    order, width = easy_order(tied)
    if width <= k:
        return ("bags", bags_out(tied, order) if order != () else NO_BAGS)
    whole = pieces_in(tied, (1 << len(web)) - 1)
    for piece in whole:
        lots = list(Lumps(tied, piece).lots.values())
        # So many lots touch two by two and have no points in common: no fewer points meet them all.
        if len(lots) > k + 1:
            return bramble_told(lots)
    return searched_answer(tied, k, whole)


def is_width_answer(web, k, value):
    """Whether the value is an answer to whether there are bags of a width of at most k."""
    check_asked(web, k)
    if is_told(value, "bags"):
        return is_bags_of(web, value[1]) and width_of(value[1]) <= k
    return is_told(value, "bramble") and is_bramble_of(web, k, value[1])


def least_width(web):
    """The least width of bags of the web, -1 without points."""
    check_web(web)
    check_few(web)
    if len(web) == 0:
        return -1
    tied = near_bits(web)
    whole = pieces_in(tied, (1 << len(web)) - 1)
    most = easy_order(tied)[1]
    k = max([Lumps(tied, piece).least for piece in whole])
    while k < most and not Clearing(tied, k).are_cleared(whole):
        k += 1
    return k


def bags_along(web, order):
    """The bags that come of taking the points out along the order."""
    check_web(web)
    many = len(web)
    if not are_between(order, 0, many - 1) or sorted(order) != list(range(many)):
        raise InvalidOperation("a tuple that has each point of the web once is asked for")
    return bags_out(near_bits(web), order) if many > 0 else NO_BAGS


def bags_out(near, order):
    """The bags of points that are taken out along the order, of which there are some."""
    tied = list(near)
    place = {point: at for at, point in enumerate(order)}
    bags = []
    above = []
    for at in range(len(order)):
        point = order[at]
        left = points_of(tied[point])
        for here in left:
            tied[here] = (tied[here] | tied[point]) & ~(1 << here) & ~(1 << point)
        bags.append(tuple(sorted(left + (point,))))
        above.append(min([place[here] for here in left], default=len(order) - 1))
    above[len(order) - 1] = None
    return (tuple(bags), tuple(above))
