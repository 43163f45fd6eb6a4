"""Stage 3: width."""
import itertools
import unittest

from fivealike.errors import InvalidBags, InvalidNumber, InvalidOperation, InvalidWeb, TooMany
from fivealike.web.webs import Web, beside, part
from fivealike.width.bags import (MOST_WIDE, bags_along, bags_width, is_bags, is_bramble, is_width_answer, least_width,
                                  width_answer)
from helper import (DOT, FORTY, NO_WEB, RING, STRANGE, TWO, check_refused, full, grid, path, ring, some_names, some_web)

ROUND = (((0, 1, 2), (0, 2, 3), (0, 3, 4), (0, 4, 5)), (None, 0, 1, 2))
NO_BAGS = (((),), (None,))
WRONG_K = (-1, 12, True, False, None, "1", (1,), 10 ** 99, [], RING)


def told_bags(web, bags, above):
    """Whether lots and what is above of them are bags: the words of the document, one by one."""
    if above.count(None) != 1 or len(above) != len(bags):
        return False
    for at in range(len(bags)):
        here, steps = at, 0
        while above[here] is not None and steps <= len(bags):
            here, steps = above[here], steps + 1
        if above[here] is not None:
            return False
    if not all(any(point in bag for bag in bags) for point in range(len(web))):
        return False
    if not all(any(a in bag and b in bag for bag in bags) for a, b in web.ties):
        return False
    for point in range(len(web)):
        tops = [at for at, bag in enumerate(bags) if point in bag and (above[at] is None or point not in bags[above[at]])]
        if len(tops) != 1:
            return False
    return True


def lots_of(many):
    return [lot for size in range(many + 1) for lot in itertools.combinations(range(many), size)]


def hangs(web, lot):
    seen, waiting = {lot[0]}, [lot[0]]
    while waiting:
        here = waiting.pop()
        for there in lot:
            if there not in seen and web.is_tied(here, there):
                seen.add(there)
                waiting.append(there)
    return len(seen) == len(lot)


def told_bramble(web, k, lots):
    if not all(lot and hangs(web, lot) for lot in lots):
        return False
    for one, other in itertools.combinations(lots, 2):
        if not set(one) & set(other) and not any(web.is_tied(a, b) for a in one for b in other):
            return False
    return not any(all(set(some) & set(lot) for lot in lots) for some in lots_of(len(web)) if len(some) <= k + 1)


def told_width(web):
    """The least width over all orders."""
    return min([bags_width(web, bags_along(web, order)) for order in itertools.permutations(range(len(web)))])


class Bags(unittest.TestCase):
    def test_all_small_ones(self):
        web = Web((0, 0, 0), ((0, 1), (1, 2)))
        lots, above = lots_of(3), (None, 0, 1)
        for many in (1, 2, 3):
            for bags in itertools.product(lots, repeat=many):
                for tops in itertools.product(above[:many + 1], repeat=many):
                    right = all(top is None or top < many for top in tops) and told_bags(web, bags, tops)
                    self.assertIs(is_bags(web, (bags, tops)), right)
                    if right:
                        self.assertEqual(bags_width(web, (bags, tops)), max([len(bag) for bag in bags]) - 1)

    def test_edges(self):
        self.assertEqual(bags_width(NO_WEB, NO_BAGS), -1)
        self.assertEqual(bags_width(NO_WEB, (((), ()), (1, None))), -1)
        self.assertFalse(is_bags(NO_WEB, ((), ())))
        for many, right in ((99, True), (100, True), (101, False)):
            self.assertIs(is_bags(DOT, (((0,),) * many, (None,) + tuple(range(many - 1)))), right)
            self.assertIs(is_bags(NO_WEB, (((),) * many, tuple(range(1, many)) + (None,))), right)
        self.assertTrue(is_bags(FORTY, ((tuple(range(40)),), (None,))))
        # No bag without one above; two of them; a bag above itself; a ring of bags.
        for above in ((0,), (1, 0), (None, None), (0, None), (None, 1)):
            self.assertFalse(is_bags(DOT, (((0,),) * len(above), above)))
        # Not as many above as there are bags.
        for above in ((None,), (None, 0, None), (None, 0, 0), (0, None, None), ()):
            self.assertFalse(is_bags(DOT, (((0,),) * 2, above)))

    def test_any_value(self):
        bags, above = ROUND
        wrong = STRANGE + (
            (list(bags), above), (bags, list(above)), [bags, above], (bags, above, ()), (bags, (None, 0, 1)),
            (bags, (None, 0, 1, True)), (bags, (None, False, 1, 2)), (bags, (None, 0, 1, 4)), (bags, (None, 0, 1, -1)),
            (((1, 0, 2),) + bags[1:], above), (((0, True, 2),) + bags[1:], above), (([0, 1, 2],) + bags[1:], above),
            (bags[:3] + ((0, 4, 6),), above), (bags, (None, 0, 1, 10 ** 99)), (bags, (None, 0, 1, "2")), (bags, None))
        for value in wrong:
            self.assertIs(is_bags(RING, value), False)
            check_refused(self, InvalidBags(""), bags_width, RING, value)
            check_refused(self, InvalidWeb(""), bags_width, None, value)
        check_refused(self, InvalidWeb(""), is_bags, None, ROUND)
        self.assertTrue(is_bags(RING, ROUND))

    def test_along(self):
        for seed in range(20):
            many = seed % 7 + 1
            web, order = some_web(seed, many, 0.4), some_names(seed, many)
            bags, above = bags_along(web, order)
            self.assertTrue(told_bags(web, bags, above))
            near = {point: set(web.near(point)) for point in range(many)}
            for at, point in enumerate(order):
                self.assertEqual(bags[at], tuple(sorted(near[point] | {point})))
                later = [order.index(other) for other in near[point]]
                self.assertEqual(above[at], min(later) if later else many - 1 if at < many - 1 else None)
                for other in near[point]:
                    near[other] |= near[point] - {other}
                    near[other].discard(point)
        self.assertEqual(bags_along(NO_WEB, ()), NO_BAGS)
        self.assertEqual(bags_along(DOT, (0,)), (((0,),), (None,)))
        self.assertEqual(bags_width(FORTY, bags_along(FORTY, tuple(range(40)))), 0)
        self.assertEqual(bags_width(full(40), bags_along(full(40), tuple(range(40)))), 39)

    def test_wrong_order(self):
        wrong = [value for value in STRANGE if value != ()]
        for order in wrong + [(), (0,), (0, 1, 1), (0, 1, 3), (False, True, 2), [0, 1, 2], (0, 1, 2, 3), (0, 1, -1)]:
            check_refused(self, InvalidOperation(""), bags_along, path(3), order)
            check_refused(self, InvalidWeb(""), bags_along, None, order)


class Brambles(unittest.TestCase):
    def test_small_ones(self):
        web = ring(4)
        lots = [lot for lot in lots_of(4)]
        for many in (0, 1, 2, 3):
            for value in itertools.combinations(lots, many):
                for k in (0, 1, 2):
                    self.assertIs(is_bramble(web, k, value), told_bramble(web, k, value))

    def test_edges(self):
        triangle = ((0,), (1,), (2,))
        for k in range(12):
            self.assertIs(is_bramble(full(12), k, tuple([(point,) for point in range(12)])), k < 11)
            self.assertIs(is_bramble(full(3), k, triangle), k < 2)
            self.assertIs(is_bramble(NO_WEB, k, ()), False)
            self.assertIs(is_bramble(full(3), k, ()), False)
        self.assertTrue(is_bramble(full(3), 1, triangle * 2))
        self.assertTrue(is_bramble(full(3), 1, ((2,), (1,), (0,))))
        # Lots that touch need no point in common, and no tie is needed if they have one.
        self.assertTrue(is_bramble(RING, 1, ((0,), (1,), (2, 3, 4, 5))))
        self.assertTrue(is_bramble(path(3), 0, ((0, 1), (1, 2), (2,))) and is_bramble(path(2), 0, ((0,), (1,))))
        self.assertFalse(is_bramble(path(3), 0, ((0, 1), (1, 2))))
        self.assertFalse(is_bramble(path(3), 0, ((0, 2), (1,))))

    def test_any_value(self):
        for value in STRANGE + (((0,), (1, 0)), ((0,), [1]), ((0,), (True,)), ((0,), (6,)), [(0,), (1,)], ((0,), ()),
                                ((0,), None), ((0,), 1), ((0,), (-1,)), ((0, 0), (1,))):
            self.assertIs(is_bramble(RING, 0, value), False)
            self.assertIs(is_width_answer(RING, 0, value), False)
            self.assertIs(is_width_answer(RING, 0, ("bramble", value)), False)
            self.assertIs(is_width_answer(RING, 11, ("bags", value)), False)

    def test_errors(self):
        for function in (is_bramble, width_answer, is_width_answer):
            more = () if function is width_answer else (None,)
            for k in WRONG_K:
                check_refused(self, InvalidNumber(k), function, RING, k, *more)
                check_refused(self, InvalidNumber(k), function, FORTY, k, *more)
                check_refused(self, InvalidWeb(""), function, None, k, *more)
            check_refused(self, TooMany(12), function, ring(13), 0, *more)
            check_refused(self, TooMany(12), function, FORTY, 11, *more)
        check_refused(self, InvalidWeb(""), least_width, None)
        check_refused(self, TooMany(12), least_width, path(13))
        self.assertEqual((MOST_WIDE, least_width(path(12))), (12, 1))


class Answers(unittest.TestCase):
    def check_answers(self, web, width):
        self.assertEqual(least_width(web), width)
        for k in range(12):
            kind, paper = answer = width_answer(web, k)
            self.assertEqual(kind, "bags" if width <= k else "bramble")
            self.assertIs(is_width_answer(web, k, answer), True)
            self.assertFalse(is_width_answer(web, k, ("bramble" if kind == "bags" else "bags", paper)))
            self.assertFalse(is_width_answer(web, k, [kind, paper]) or is_width_answer(web, k, (kind, paper, ())))
            if kind == "bags":
                self.assertTrue(told_bags(web, *paper))
                self.assertLessEqual(bags_width(web, paper), k)
                if k > 0:
                    self.assertIs(is_width_answer(web, k - 1, answer), bags_width(web, paper) < k)
            else:
                self.assertTrue(is_bramble(web, k, paper))
                if len(web) <= 6:
                    self.assertTrue(told_bramble(web, k, paper))

    def test_known(self):
        for web, width in ((NO_WEB, -1), (DOT, 0), (Web((0,) * 12, ()), 0), (path(12), 1), (ring(12), 2), (TWO, 2),
                           (full(12), 11), (full(5), 4), (grid(3, 4), 3), (grid(2, 6), 2), (beside(full(4), ring(5)), 3),
                           (grid(3, 3), 3)):
            self.check_answers(web, width)

    def test_small(self):
        for seed in range(30):
            web = some_web(seed, seed % 6 + 1, 0.6)
            self.check_answers(web, told_width(web))

    def test_twelve(self):
        for seed in range(6):
            web = some_web(seed, 12, 0.15 + 0.12 * seed)
            self.check_answers(web, least_width(web))

    def test_never_both(self):
        for seed in range(20):
            web = some_web(seed, 7, 0.5)
            width = least_width(web)
            for k in range(8):
                self.assertEqual(width_answer(web, k)[0] == "bags", width <= k)

    def test_any_bags(self):
        self.assertTrue(is_width_answer(RING, 2, ("bags", ROUND)) and is_width_answer(RING, 11, ("bags", ROUND)))
        self.assertFalse(is_width_answer(RING, 1, ("bags", ROUND)))
        self.assertTrue(is_width_answer(NO_WEB, 0, ("bags", NO_BAGS)))

    def test_less_is_no_wider(self):
        for seed in range(10):
            web = some_web(seed, 7, 0.5)
            self.assertLessEqual(least_width(part(web, (0, 1, 2, 4, 5))), least_width(web))
            self.assertLessEqual(least_width(Web(web.colours, web.ties[1:])), least_width(web))


if __name__ == "__main__":
    unittest.main()
