"""Stage 11: the mixed program and its points."""
import fractions
import itertools
import math
import random
import unittest

import told
from fivealike.colour.alike import least_apart
from fivealike.errors import InvalidMap, InvalidNumber, InvalidOperation, InvalidWeb, Refused, TooMany
from fivealike.program.point import (is_led_on, is_partial, is_point, is_sum, led_on, map_point, members, mixed_point,
                                     partials, point_of)
from fivealike.web.maps import is_same
from fivealike.web.webs import Web, beside, renamed
from helper import (DOT, FORTY, NO_WEB, RING, STRANGE, TWO, check_refused, full, path, ring, some_names, some_web,
                    twisted)

PAIR, LOOSE = Web((0, 0), ((0, 1),)), Web((0, 0), ())
PATH, TURNED = Web((0, 0, 0), ((0, 1), (1, 2))), Web((0, 0, 0), ((0, 1), (0, 2)))
WRONG_K = (0, 4, -1, True, False, None, "1", (1,), 10 ** 99, [])


def told_partial(one, other, pairs):
    """Whether ascending pairs are a partial, by the words: both rows have one atom."""
    first, second = [v for v, _ in pairs], [w for _, w in pairs]
    if len(set(first)) < len(first) or len(set(second)) < len(second):
        return False
    return told.atom(one, tuple(first)) == told.atom(other, tuple(second))


def told_partials(one, other, many):
    pairs = list(itertools.product(range(len(one)), range(len(other))))
    return [chosen for length in range(many + 1) for chosen in itertools.combinations(pairs, length)
            if told_partial(one, other, chosen)]


def told_sums(one, other, k):
    """All sums, with the lists of their members."""
    found = {}
    right = set(told_partials(one, other, k + 1))
    for partial in told_partials(one, other, k):
        for v in range(len(one)):
            grown = [tuple(sorted(set(partial) | {(v, w)})) for w in range(len(other))]
            found["first", partial, v] = [chosen for chosen in grown if chosen in right]
        for w in range(len(other)):
            grown = [tuple(sorted(set(partial) | {(v, w)})) for v in range(len(one))]
            found["second", partial, w] = [chosen for chosen in grown if chosen in right]
    return found


def told_point(one, other, k, value):
    """Whether a pair of the right form is a point, by the words."""
    whole, numbers = value
    if numbers.get(()) != whole:
        return False
    return all(sum([numbers.get(member, 0) for member in members_told]) == numbers.get(partial, 0)
               for (_, partial, _), members_told in told_sums(one, other, k).items())


def some_pairs():
    """Pairs of webs within the lesser rows limit, and a k."""
    for seed in range(24):
        k = seed % 3 + 1
        many = seed % 4 + 1
        one = some_web(seed, many, 0.5, (0,) if seed % 4 else (0, 1, -1))
        yield one, some_web(seed + 90, many, 0.5, (0,) if seed % 4 else (0, 1, -1)), k
        yield one, renamed(one, some_names(seed, many)), k
    yield from [(RING, TWO, 1), (RING, TWO, 2), (NO_WEB, NO_WEB, 1), (NO_WEB, DOT, 2), (DOT, NO_WEB, 3), (PATH, TURNED, 3),
                (path(5, 1), path(5, 3), 1), (path(4), beside(path(2), path(2)), 1), (ring(6), ring(6), 2)]


class Partials(unittest.TestCase):
    def test_told(self):
        for one, other, _ in some_pairs():
            for many in range(5):
                if max(len(one), len(other)) ** many > 300:
                    check_refused(self, TooMany(300), partials, one, other, many)
                elif len(one) * len(other) <= 16 or many <= 2:
                    self.assertEqual(list(partials(one, other, many)), told_partials(one, other, many))

    def test_judge(self):
        for one, other in ((PATH, TURNED), (RING, TWO), (some_web(1, 3, 0.5, (0, 1)), some_web(2, 4, 0.5, (0, 1)))):
            pairs = list(itertools.product(range(len(one)), range(len(other))))
            for many in range(4):
                for value in itertools.combinations(pairs, many):
                    self.assertIs(is_partial(one, other, value), told_partial(one, other, value))
        # Of however many pairs.
        self.assertIs(is_partial(RING, RING, tuple(zip(range(6), range(6)))), True)
        self.assertIs(is_partial(FORTY, FORTY, tuple(zip(range(40), some_names(1, 40)))), True)
        self.assertIs(is_partial(full(40), full(40), tuple(zip(range(40), range(40)))), True)
        self.assertIs(is_partial(full(40), full(39), tuple(zip(range(40), range(40)))), False)

    def test_any_value(self):
        for value in STRANGE[:6] + STRANGE[7:] + (
                (0, 0), ((0, 0, 0),), ((0,),), ([0, 0],), [(0, 0)], ((1, 0), (0, 1)), ((0, 0), (0, 0)), ((0, True),),
                ((False, 0),), ((0, 3),), ((3, 0),), ((-1, 0),), ((0, None),), ((0, "0"),), (((0,), 0),), ((0, 10 ** 99),), RING):
            self.assertIs(is_partial(PATH, TURNED, value), False)
        self.assertIs(is_partial(PATH, TURNED, ()), True)

    def test_limits(self):
        self.assertEqual(len(partials(FORTY, FORTY, 0)), 1)
        self.assertEqual(len(partials(FORTY, FORTY, 1)), 1601)
        for many, within, beyond in ((2, 17, 18), (3, 6, 7), (4, 4, 5)):
            self.assertEqual(partials(full(within), DOT, many), ((),) + tuple([((v, 0),) for v in range(within)]))
            for one, other in ((full(beyond), DOT), (DOT, full(beyond))):
                check_refused(self, TooMany(300), partials, one, other, many)
        for many in (-1, 5, True, False, None, "0", (0,), 10 ** 99):
            check_refused(self, InvalidNumber(many), partials, FORTY, FORTY, many)


class Sums(unittest.TestCase):
    def test_told(self):
        for one, other, k in some_pairs():
            if len(one) * len(other) > 20:
                continue
            for total, wanted in told_sums(one, other, k).items():
                self.assertIs(is_sum(one, other, k, total), True)
                # A pair of the partial's own gives just the partial itself.
                self.assertEqual(members(one, other, k, total), tuple(dict.fromkeys(wanted)))

    def test_sequence(self):
        # By ascending points of the other web, not by ascending partials.
        self.assertEqual(members(LOOSE, LOOSE, 1, ("second", ((1, 0),), 1)), (((0, 1), (1, 0)),))
        three = Web((0,) * 3, ())
        self.assertEqual(members(three, three, 1, ("second", ((1, 1),), 0)), (((0, 0), (1, 1)), ((1, 1), (2, 0))))
        self.assertEqual(members(three, three, 1, ("first", ((0, 1),), 2)), (((0, 1), (2, 0)), ((0, 1), (2, 2))))
        self.assertEqual(members(DOT, NO_WEB, 1, ("first", (), 0)), ())

    def test_any_value(self):
        pair = ((0, 1),)
        for value in STRANGE + (("first",), ("first", ()), ("first", (), 3), ("second", (), -1), ("third", (), 0), (None, (), 0),
                                ["first", (), 0], ("first", [], 0), ("first", ((0, 3),), 0), ("first", (), True), ("first", (), None),
                                ("first", pair, 0, 0), ("first", ((0, True),), 0), ("first", ((0, 1), (1, 0)), 0), (0, (), 0),
                                ("first", (), 10 ** 99), ("first", None, 0), (("first",), (), 0)):
            self.assertIs(is_sum(PATH, TURNED, 1, value), False)
            check_refused(self, InvalidOperation(""), members, PATH, TURNED, 1, value)
        for value in (("first", pair, 2), ("second", pair, 1), ("first", (), 0)):
            self.assertIs(is_sum(PATH, TURNED, 1, value), True)
        self.assertIs(is_sum(PATH, TURNED, 2, ("first", ((0, 1), (1, 0)), 0)), True)
        # A point of the right one of both webs.
        self.assertEqual([is_sum(DOT, PAIR, 1, (word, (), 1)) for word in ("first", "second")], [False, True])


class Points(unittest.TestCase):
    def test_told(self):
        for one, other, k in some_pairs():
            least = least_apart(one, other, k)
            if least is not None:
                check_refused(self, Refused(("apart", least)), point_of, one, other, k)
                continue
            whole, numbers = point = point_of(one, other, k)
            self.assertIs(is_point(one, other, k, point), True)
            self.assertEqual(list(numbers), sorted(numbers))
            self.assertTrue(all(number > 0 for number in numbers.values()) and numbers[()] == whole)
            if len(one) < 6:
                self.assertTrue(told_point(one, other, k, point))
            for partial in partials(one, other, min(k, 2)):
                if partial in numbers:
                    images = led_on(one, other, k, point, partial)
                    self.assertIs(is_led_on(one, other, k, point, partial, images), True)
                    self.assertEqual(sorted(images), list(range(len(other))))
                    for v, w in enumerate(images):
                        self.assertIn(tuple(sorted(set(partial) | {(v, w)})), numbers)
                else:
                    check_refused(self, Refused(("nought",)), led_on, one, other, k, point, partial)

    def test_by_types(self):
        """X is one by how many rows of the second web have the type."""
        for one, other, k in ((RING, TWO, 1), (PATH, TURNED, 2), (path(4), path(4), 3)):
            whole, numbers = point_of(one, other, k)
            for partial in told_partials(one, other, k + 1):
                rows = tuple([v for v, _ in partial]), tuple([w for _, w in partial])
                types = told.types((one, other), k, len(partial), 4)
                wanted = fractions.Fraction(0)
                if types[0][rows[0]] == types[1][rows[1]]:
                    wanted = fractions.Fraction(1, list(types[1].values()).count(types[0][rows[0]]))
                self.assertEqual(fractions.Fraction(numbers.get(partial, 0), whole), wanted)

    def test_judge(self):
        right = point_of(RING, TWO, 1)
        whole, numbers = right
        great = 10 ** 60
        self.assertIs(is_point(RING, TWO, 1, (whole * great, {partial: number * great for partial, number in numbers.items()})), True)
        self.assertIs(is_point(RING, TWO, 1, (whole, dict(reversed(list(numbers.items()))))), True)
        pair = ((0, 0),)
        last = list(numbers)[-1]
        for value in STRANGE + (
                numbers, whole, (whole, numbers, 0), [whole, numbers], (whole + 1, numbers), (0, {}), (0, {(): 0}), (1, {(): 1}),
                (-whole, {partial: -number for partial, number in numbers.items()}), (whole, {**numbers, pair: numbers[pair] + 1}),
                (whole, {partial: number for partial, number in numbers.items() if partial != pair}), (str(whole), numbers),
                (whole, {partial: number for partial, number in numbers.items() if partial != last}), (whole, list(numbers)),
                (whole, {**numbers, ((0, 0), (1, 1), (2, 2)): 1}), (whole, {**numbers, pair: None}), (whole, {**numbers, "a": 1}),
                (whole, {**numbers, ((0, 0), (1, 2)): numbers[((0, 0), (1, 2))] + 1}), (whole, {**numbers, 7: 1}),
                (whole, {**numbers, ((0, 0), (0, 0)): 1}), (whole, {**numbers, ((0, 0), (1, 4)): 0}), (whole, {**numbers, (): True})):
            self.assertIs(is_point(RING, TWO, 1, value), False)
        self.assertIs(is_point(DOT, DOT, 1, (1, {(): 1, ((0, 0),): 1})), True)
        for value in ((True, {(): 1, ((0, 0),): 1}), (1, {(): 1, ((0, 0),): True}), (1, {(): True, ((0, 0),): 1}),
                      (1, {(): 1, ((False, 0),): 1}), (1, {(): 1, ((0, 0),): 1, ((0, 1),): 1}), (2, {(): 2, ((0, 0),): 1})):
            self.assertIs(is_point(DOT, DOT, 1, value), False)
        # Cut to fewer pairs a point is one of a lesser level.
        whole, numbers = point_of(PATH, TURNED, 3)
        for k in (1, 2):
            cut = (whole, {partial: numbers[partial] for partial in numbers if len(partial) <= k + 1})
            self.assertIs(is_point(PATH, TURNED, k, cut), True)
        self.assertIs(is_point(PATH, TURNED, 1, (whole, numbers)), False)

    def test_bent_points(self):
        """All numbers of small webs around those of a point, by the words."""
        for one, other in ((PAIR, PAIR), (LOOSE, LOOSE), (PAIR, LOOSE)):
            unknowns = told_partials(one, other, 2)[1:]
            for numbers in itertools.product(range(3), repeat=len(unknowns)):
                value = (2, {(): 2, **{partial: number for partial, number in zip(unknowns, numbers) if number}})
                self.assertIs(is_point(one, other, 1, value), told_point(one, other, 1, value))

    def test_no_points(self):
        self.assertEqual(point_of(NO_WEB, NO_WEB, 1), (1, {(): 1}))
        self.assertIs(is_point(NO_WEB, NO_WEB, 1, (5, {(): 5})), True)
        # Members of a sum that has none.
        self.assertIs(is_point(NO_WEB, DOT, 1, (1, {(): 1})), False)
        self.assertIs(is_point(DOT, NO_WEB, 1, (1, {(): 1})), False)
        self.assertEqual(led_on(NO_WEB, NO_WEB, 1, (1, {(): 1}), ()), ())
        check_refused(self, Refused(("apart", 1)), point_of, NO_WEB, DOT, 1)

    def test_of_maps(self):
        for one, other, k in some_pairs():
            for images in itertools.permutations(range(len(other))) if len(one) < 5 else ():
                if not is_same(one, other, images):
                    check_refused(self, InvalidMap(""), map_point, one, other, k, images)
                    continue
                whole, numbers = point = map_point(one, other, k, images)
                pairs = list(enumerate(images))
                wanted = [chosen for many in range(k + 2) for chosen in itertools.combinations(pairs, many)]
                self.assertEqual((whole, numbers), (1, {partial: 1 for partial in wanted}))
                self.assertEqual(list(numbers), sorted(numbers))
                self.assertIs(is_point(one, other, k, point), True)
                for partial in wanted:
                    if len(partial) <= k:
                        self.assertEqual(led_on(one, other, k, point, partial), images)
                        self.assertIs(is_led_on(one, other, k, point, partial, images), True)

    def test_mixed(self):
        first, second = map_point(RING, RING, 1, (1, 2, 3, 4, 5, 0)), map_point(RING, RING, 1, (0, 1, 2, 3, 4, 5))
        half = mixed_point(RING, RING, 1, first, second)
        self.assertEqual((half[0], half[1][((0, 1),)], half[1][((0, 0), (1, 1))], half[1][()]), (2, 1, 1, 2))
        self.assertIs(is_point(RING, RING, 1, half), True)
        self.assertEqual(mixed_point(RING, RING, 1, first, first), first)
        great = 10 ** 30 + 57
        for one, two in ((half, first), (point_of(RING, RING, 1), half), (half, point_of(RING, RING, 1)),
                         ((great, {partial: great for partial in first[1]}), half)):
            whole, numbers = mixed = mixed_point(RING, RING, 1, one, two)
            self.assertIs(is_point(RING, RING, 1, mixed), True)
            self.assertEqual(math.gcd(*numbers.values()), 1)
            self.assertEqual(list(numbers), sorted(numbers))
            for partial in set(one[1]) | set(two[1]):
                wanted = (fractions.Fraction(one[1].get(partial, 0), one[0]) + fractions.Fraction(two[1].get(partial, 0), two[0])) / 2
                self.assertEqual(fractions.Fraction(numbers.get(partial, 0), whole), wanted)

    def test_led_on_judge(self):
        point = point_of(RING, TWO, 1)
        for partial in ((), ((0, 4),)):
            numbers = point[1]
            for images in random.Random(5).sample(list(itertools.permutations(range(6))), 200):
                right = all(tuple(sorted(set(partial) | {(v, w)})) in numbers for v, w in enumerate(images))
                self.assertIs(is_led_on(RING, TWO, 1, point, partial, images), right)
        for value in STRANGE + ((0, 1, 2, 3, 4), (0,) * 6, (0, 1, 2, 3, 4, 6), [0, 1, 2, 3, 4, 5], (False, True, 2, 3, 4, 5),
                                (0, 1, 2, 3, 4, 5, 6), (0, 1, 2, 3, 4, 10 ** 99), (0, 1, 2, 3, 4, None)):
            self.assertIs(is_led_on(RING, TWO, 1, point, (), value), False)
        self.assertIs(is_led_on(RING, TWO, 1, point, (), (0, 1, 2, 3, 4, 5)), True)
        # What is led is led to its own image alone.
        self.assertIs(is_led_on(RING, TWO, 1, point, ((0, 1),), led_on(RING, TWO, 1, point, ((0, 0),))), False)

    def test_untrue(self):
        # Partials that are 0 at one point, not at another one; a point of webs that are the same with fractions.
        self.assertNotIn(((0, 2),), map_point(RING, RING, 1, (0, 1, 2, 3, 4, 5))[1])
        self.assertIn(((0, 2),), point_of(RING, RING, 1)[1])
        self.assertNotEqual(point_of(RING, RING, 1)[0], 1)
        # All sums of "first" hold, those of "second" do not.
        numbers = {(): 1, ((0, 0),): 1}
        self.assertEqual(numbers[()], sum([numbers.get(((0, w),), 0) for w in range(2)]))
        self.assertIs(is_point(DOT, LOOSE, 1, (1, numbers)), False)


class Refusals(unittest.TestCase):
    CALLS = ((is_sum, (None,)), (members, (None,)), (point_of, ()), (is_point, (None,)), (led_on, (None, None)),
             (is_led_on, (None, None, None)), (map_point, (None,)), (mixed_point, (None, None)))

    def test_webs_and_k(self):
        for function, more in self.CALLS + ((partials, ()), (is_partial, ())):
            for web in STRANGE:
                check_refused(self, InvalidWeb(""), function, web, FORTY, None, *more)
                check_refused(self, InvalidWeb(""), function, FORTY, web, None, *more)
        for function, more in self.CALLS:
            for k in WRONG_K:
                check_refused(self, InvalidNumber(k), function, FORTY, FORTY, k, *more)

    def test_points_and_partials(self):
        point = point_of(RING, RING, 1)
        for function, more in ((led_on, (None,)), (is_led_on, (None, None))):
            for value in STRANGE + ((1, {(): 1}), (point[0], {**point[1], (): True}), list(point)):
                check_refused(self, InvalidOperation(""), function, RING, RING, 1, value, *more)
            for value in STRANGE[:6] + STRANGE[7:] + (((0, 0), (1, 1)), ((0, True),), ((0, 6),), [(0, 0)], ((0, 0), (0, 0))):
                check_refused(self, InvalidMap(""), function, RING, RING, 1, point, value, *more[1:])
        for value in STRANGE + ((1, {(): 1}),):
            check_refused(self, InvalidOperation(""), mixed_point, RING, RING, 1, value, None)
            check_refused(self, InvalidOperation(""), mixed_point, RING, RING, 1, point, value)
        for value in STRANGE + ((0, 1, 2, 3, 5, 4), (0,) * 6, (False, True, 2, 3, 4, 5)):
            check_refused(self, InvalidMap(""), map_point, RING, RING, 1, value)
        check_refused(self, Refused(("nought",)), is_led_on, RING, RING, 1, map_point(RING, RING, 1, tuple(range(6))), ((0, 3),), None)

    def test_lesser_limit(self):
        for k, within, beyond in ((1, 17, 18), (2, 6, 7), (3, 4, 5)):
            for one, other in ((full(beyond), DOT), (DOT, full(beyond)), (full(beyond), full(beyond))):
                check_refused(self, TooMany(300), point_of, one, other, k)
                check_refused(self, TooMany(300), is_point, one, other, k, None)
            web, many = full(beyond), tuple(range(beyond))
            check_refused(self, TooMany(300), map_point, web, web, k, many)
            check_refused(self, InvalidMap(""), map_point, web, web, k, many[1:])
            # What is checked ahead of the limit: a right point of webs that are too large.
            pairs = list(zip(many, many))
            large = (1, {chosen: 1 for size in range(k + 2) for chosen in itertools.combinations(pairs, size)})
            check_refused(self, TooMany(300), led_on, web, web, k, large, ())
            check_refused(self, TooMany(300), is_led_on, web, web, k, large, ((0, 1),), None)
            check_refused(self, TooMany(300), mixed_point, web, web, k, large, large)
            check_refused(self, InvalidOperation(""), mixed_point, web, web, k, large, (1, {(): 1}))
            check_refused(self, InvalidOperation(""), led_on, web, web, k, (1, {(): 1}), None)
            self.assertIs(is_point(full(within), full(within), k, map_point(full(within), full(within), k, tuple(range(within)))), True)
            self.assertEqual(members(web, web, k, ("first", (), 0)), tuple([((0, w),) for w in many]))


if __name__ == "__main__":
    unittest.main()
