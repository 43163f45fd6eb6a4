"""Stage 13: width and depth at once."""
import itertools
import random
import unittest

from fivealike.colour.alike import least_apart
from fivealike.depth.forests import (MOST_TRIED, forest_depth, forest_of, is_forest, is_unlike_forest, least_depth,
                                     least_forest, recipe_of_forest, unlike_forest)
from fivealike.errors import InvalidBags, InvalidNumber, InvalidRecipe, InvalidWeb, Refused, TooMany
from fivealike.web.maps import map_number
from fivealike.web.webs import Web, beside, part
from fivealike.width.bags import bags_along
from fivealike.width.recipes import is_recipe, number_of, pattern_of, recipe_depth, recipe_of
from helper import DOT, FORTY, NO_WEB, RING, STRANGE, TWO, check_refused, full, path, ring, some_web, twisted
from test_recipes import THREE, closed, some_recipe

WAY = Web((-1,) * 7, ((0, 1), (1, 2), (2, 3), (3, 4), (4, 5), (5, 6)))
SIDES = Web((-1,) * 3, ((0, 1), (0, 2), (1, 2)))
WRONG_K = (0, 4, -1, True, False, None, "1", (1,), 10 ** 99, [])


def told_forest(pattern, k, above, labels):
    """Whether tuples of the right form are a forest, by the words."""
    many = len(pattern)
    uppers = []
    for point in range(many):
        way, here = [], above[point]
        while here is not None and len(way) <= many:
            way.append(here)
            here = above[here]
        if len(way) > many or point in way:
            return False
        uppers.append(way)
    for tie in pattern.ties:
        for u, v in (tie, tie[::-1]):
            if u in uppers[v]:
                below = [v] + uppers[v][:uppers[v].index(u)]
                if any(labels[point] == labels[u] for point in below):
                    return False
        if tie[0] not in uppers[tie[1]] and tie[1] not in uppers[tie[0]]:
            return False
    return True


def told_depth(above):
    depths = []
    for point in range(len(above)):
        here, many = point, 0
        while here is not None:
            here, many = above[here], many + 1
        depths.append(many)
    return max(depths, default=0)


def told_least(pattern, k):
    """The least depth of all forests of a small pattern, None if there is none."""
    many = len(pattern)
    found = [told_depth(above) for above in itertools.product((None,) + tuple(range(many)), repeat=many)
             if is_acyclic(above)
             for labels in itertools.product(range(k + 1), repeat=many) if told_forest(pattern, k, above, labels)]
    return min(found, default=None)


def is_acyclic(above):
    for point in range(len(above)):
        here = point
        for _ in range(len(above) + 1):
            here = above[here] if here is not None else None
        if here is not None:
            return False
    return True


def joined_recipe(seed, k, many):
    """A recipe with many equal places, whose lines are used several times."""
    source = random.Random(seed)
    lines, places = [], []
    while len(lines) < many:
        word = source.choice(("tie", "tie", "same", "same", "glue", "glue", "glue", "sum", "sum"))
        i, j = sorted(source.sample(range(k + 1), 2))
        if word in ("tie", "same"):
            line, told = (word, i, j), {i, j}
        elif lines == []:
            continue
        elif word == "glue":
            a, b = source.randrange(max(0, len(lines) - 5), len(lines)), source.randrange(len(lines))
            line, told = (word, a, b), places[a] | places[b]
        else:
            a = source.randrange(max(0, len(lines) - 4), len(lines))
            if not places[a]:
                continue
            i = source.choice(sorted(places[a]))
            line, told = (word, i, a), places[a] - {i}
        lines.append(line)
        places.append(told)
    return closed(tuple(lines), k)


class Judges(unittest.TestCase):
    def test_all_of_small_patterns(self):
        for pattern in (path(3), full(3), Web((0, 1, -1), ((0, 2),)), Web((0, 0), ()), DOT):
            many = len(pattern)
            for above in itertools.product((None,) + tuple(range(many)), repeat=many):
                for labels in itertools.product(range(3), repeat=many):
                    for k in (1, 2):
                        right = max(labels) <= k and told_forest(pattern, k, above, labels)
                        self.assertIs(is_forest(pattern, k, (above, labels)), right)
                        if right:
                            self.assertEqual(forest_depth(pattern, k, (above, labels)), told_depth(above))
                        else:
                            check_refused(self, InvalidBags(""), forest_depth, pattern, k, (above, labels))

    def test_large_ones(self):
        # A label twice on a way that a tie spans.
        self.assertTrue(is_forest(WAY, 1, ((1, 2, 3, None, 3, 4, 5), (1, 0, 1, 0, 1, 0, 1))))
        self.assertFalse(is_forest(WAY, 1, ((1, 2, 3, None, 3, 4, 5), (1, 0, 1, 0, 1, 0, 0))))
        # A point below the upper one has its label, but not on the way to the tied one.
        star = Web((0,) * 4, ((0, 1), (0, 2), (0, 3)))
        self.assertTrue(is_forest(star, 1, ((None, 0, 0, 0), (0, 1, 1, 1))))
        self.assertFalse(is_forest(star, 1, ((None, 0, 1, 2), (0, 1, 0, 1))))
        self.assertTrue(is_forest(star, 1, ((None, 0, 0, 1), (0, 1, 1, 1))))
        # Points above themselves by steps.
        for above in ((0, None, 1), (1, 0, None), (1, 2, 0), (2, 2, 2)):
            self.assertFalse(is_forest(Web((0,) * 3, ()), 1, (above, (0, 0, 0))))
        self.assertTrue(is_forest(FORTY, 1, ((None,) + tuple(range(39)), (0,) * 40)))
        self.assertEqual(forest_depth(FORTY, 1, ((None,) + tuple(range(39)), (0,) * 40)), 40)
        self.assertFalse(is_forest(FORTY, 1, ((39,) + tuple(range(39)), (0,) * 40)))

    def test_no_points(self):
        self.assertIs(is_forest(NO_WEB, 1, ((), ())), True)
        self.assertEqual(forest_depth(NO_WEB, 3, ((), ())), 0)
        self.assertEqual(recipe_depth(recipe_of_forest(NO_WEB, 1, ((), ())), 1), 0)
        self.assertEqual(number_of(recipe_of_forest(NO_WEB, 1, ((), ())), 1, RING), 1)

    def test_any_value(self):
        right = ((None, 0, 1), (0, 1, 2))
        self.assertIs(is_forest(SIDES, 2, right), True)
        for value in STRANGE + (right[:1], list(right), right + ((),), ((None, 0), (0, 1, 2)), ((None, 0, 1), (0, 1)),
                                ([None, 0, 1], (0, 1, 2)), ((None, 0, 1), [0, 1, 2]), ((None, False, True), (0, 1, 2)),
                                ((None, 0, 1), (False, True, 2)), ((None, 0, 3), (0, 1, 2)), ((None, 0, -1), (0, 1, 2)),
                                ((None, 0, 1), (0, 1, 3)), ((None, 0, 1), (0, 1, -1)), ((None, 0, 1), (0, 1, None)),
                                ((None, 0, (1,)), (0, 1, 2)), ((None, 0, 10 ** 99), (0, 1, 2)), ((None, 0, 1), (0, 1, 10 ** 99)),
                                ((None, "0", 1), (0, 1, 2)), (SIDES, right)):
            self.assertIs(is_forest(SIDES, 2, value), False)
            check_refused(self, InvalidBags(""), forest_depth, SIDES, 2, value)
            check_refused(self, InvalidBags(""), recipe_of_forest, SIDES, 2, value)
        self.assertIs(is_forest(SIDES, 1, right), False)
        self.assertIs(is_forest(SIDES, 3, right), True)


class Recipes(unittest.TestCase):
    def check_forest_of(self, recipe, k, webs):
        try:
            pattern, above, labels = forest_of(recipe, k)
        except Refused as error:
            check_refused(self, Refused(error.reason), pattern_of, recipe, k)
            return False
        self.assertIs(is_forest(pattern, k, (above, labels)), True)
        self.assertTrue(told_forest(pattern, k, above, labels))
        self.assertLessEqual(told_depth(above), recipe_depth(recipe, k))
        for web in webs:
            number = number_of(recipe, k, web)
            if len(web) ** len(pattern) <= 20000:
                self.assertEqual(map_number(pattern, web), number)
            made = recipe_of_forest(pattern, k, (above, labels))
            self.assertTrue(is_recipe(k, made))
            self.assertLessEqual(recipe_depth(made, k), told_depth(above))
            self.assertEqual(number_of(made, k, web), number)
        return True

    def test_some(self):
        webs = (full(3), some_web(3, 4, 0.6, (0, 1, 9)))
        right = [self.check_forest_of(closed(some_recipe(seed, seed % 3 + 1, 14), seed % 3 + 1), seed % 3 + 1, webs)
                 for seed in range(90)]
        self.assertIn(False, right)

    def test_equal_places(self):
        webs = (full(3), some_web(3, 4, 0.6))
        found = [self.check_forest_of(joined_recipe(seed, seed % 3 + 1, 18), seed % 3 + 1, webs) for seed in range(300)]
        self.assertIn(False, found)

    def test_same_on_several_ways(self):
        # Below the place 0, on two ways down, equal places, one of them with its label used again.
        way = (("tie", 0, 1), ("same", 0, 2), ("tie", 1, 2), ("glue", 1, 2), ("sum", 2, 3), ("sum", 1, 4), ("glue", 5, 5),
               ("same", 0, 1), ("glue", 6, 7), ("tie", 1, 2), ("sum", 2, 9), ("glue", 8, 10), ("sum", 1, 11), ("sum", 0, 12))
        self.assertTrue(self.check_forest_of(way, 2, (RING, TWO, some_web(3, 5))))
        # A line used several times makes its points anew each time.
        many = (("point", 0), ("sum", 0, 0), ("glue", 1, 1), ("glue", 2, 2), ("glue", 3, 3))
        pattern, above, labels = forest_of(many, 1)
        self.assertEqual((len(pattern), told_depth(above)), (8, 1))
        doubled = (("same", 0, 1), ("sum", 1, 0)) + tuple([("glue", at, at) for at in range(1, 30)]) + (("sum", 0, 30),)
        self.assertEqual(len(forest_of(doubled, 1)[0]), 1)

    def test_along_bags(self):
        for seed in range(30):
            pattern = some_web(seed, 5, 0.4, (-1, 0))
            bags = bags_along(pattern, (0, 1, 2, 3, 4))
            if max(len(bag) for bag in bags[0]) <= 3:
                self.check_forest_of(recipe_of(pattern, bags, 2), 2, (TWO, some_web(seed + 3, 4, 0.5, (0, 1))))

    def test_refusals(self):
        for k in WRONG_K:
            check_refused(self, InvalidNumber(k), forest_of, None, k)
        for value in STRANGE + (THREE[:7], (("point", 0),), list(THREE)):
            check_refused(self, InvalidRecipe(""), forest_of, value, 2)
        check_refused(self, InvalidRecipe(""), forest_of, THREE, 1)
        never = (("tie", 0, 1), ("same", 0, 1), ("glue", 0, 1), ("sum", 0, 2), ("sum", 1, 3))
        check_refused(self, Refused(("never", 2)), forest_of, never, 1)
        check_refused(self, Refused(("never", 2)), forest_of,
                      (("colour", 0, 1), ("colour", 0, 2), ("glue", 0, 1), ("sum", 0, 2)), 3)
        # A line that contradicts itself, but is not needed.
        self.assertEqual(len(forest_of(never + (("one",),), 1)[0]), 0)
        points = (("point", 0), ("sum", 0, 0))
        for many, right in ((40, True), (41, False)):
            recipe = points + tuple([("glue", 1 + at, 1) for at in range(many - 1)])
            if right:
                self.assertEqual(len(forest_of(recipe, 1)[0]), many)
            else:
                check_refused(self, TooMany(40), forest_of, recipe, 1)


class Least(unittest.TestCase):
    def test_all_small_patterns(self):
        for many in range(4):
            pairs = list(itertools.combinations(range(many), 2))
            for ties in itertools.chain.from_iterable(itertools.combinations(pairs, size) for size in range(len(pairs) + 1)):
                pattern = Web((0,) * many, ties)
                for k in (1, 2):
                    self.check_least(pattern, k, told_least(pattern, k))
        for seed in range(4):
            pattern = some_web(seed, 4, 0.6)
            self.check_least(pattern, 1, told_least(pattern, 1))

    def check_least(self, pattern, k, least):
        self.assertEqual(least_depth(pattern, k), least)
        forest = least_forest(pattern, k)
        self.assertIs(forest is None, least is None)
        if forest is not None:
            self.assertIs(is_forest(pattern, k, forest), True)
            self.assertEqual(forest_depth(pattern, k, forest), least)

    def test_known_ones(self):
        # The path of seven points: two labels, and three.
        self.check_least(WAY, 1, 4)
        self.check_least(WAY, 2, 3)
        self.check_least(WAY, 3, 3)
        self.check_least(SIDES, 1, None)
        self.check_least(full(4), 2, None)
        self.check_least(full(4), 3, 4)
        self.check_least(full(5), 3, None)
        self.check_least(ring(7), 1, None)
        self.check_least(ring(7), 2, 4)
        self.check_least(Web((0,) * 7, ()), 1, 1)
        self.check_least(NO_WEB, 2, 0)

    def test_pieces_and_parts(self):
        for seed in range(30):
            k = seed % 3 + 1
            one, other = some_web(seed, 4, 0.5), some_web(seed + 60, 3, 0.6)
            depths = [least_depth(one, k), least_depth(other, k)]
            both = least_depth(beside(one, other), k)
            self.assertEqual(both, None if None in depths else max(depths))
            if depths[0] is not None:
                for point in range(4):
                    left = part(one, tuple([here for here in range(4) if here != point]))
                    self.assertLessEqual(least_depth(left, k), depths[0])
                fewer = Web(one.colours, one.ties[1:])
                self.assertLessEqual(least_depth(fewer, k), depths[0])

    def test_untrue(self):
        # In a forest of the least depth tied points need not be right above one another.
        forest = least_forest(WAY, 2)
        self.assertTrue(any(forest[0][a] != b and forest[0][b] != a for a, b in WAY.ties))
        # With more labels the depth stays; without rings of ties it can be less for more labels.
        self.assertEqual(least_depth(WAY, 2), least_depth(WAY, 3))
        self.assertLess(least_depth(WAY, 2), least_depth(WAY, 1))

    def test_limit(self):
        self.assertEqual(MOST_TRIED, 7)
        for function in (least_forest, least_depth):
            check_refused(self, TooMany(7), function, path(8), 1)
            check_refused(self, InvalidNumber(0), function, path(8), 0)
            self.assertIsNotNone(function(path(7), 1))


class Unlike(unittest.TestCase):
    def test_told(self):
        for one, other, k in ((RING, TWO, 1), (RING, TWO, 2), (ring(8), beside(ring(4), ring(4)), 2), (NO_WEB, DOT, 1), (DOT, NO_WEB, 2),
                              (path(4), beside(path(2), path(2)), 1), (path(3), full(3), 1), (DOT, Web((3,), ()), 3),
                              (DOT, Web((-1,), ()), 1), (twisted(full(3), ()), twisted(full(3), ((0, 1),)), 2), (NO_WEB, NO_WEB, 2),
                              (twisted(full(3), ()), twisted(full(3), ((0, 1),)), 1)):
            least = least_apart(one, other, k)
            found = unlike_forest(one, other, k)
            if least is None:
                self.assertIsNone(found)
                continue
            pattern, above, labels = found
            self.assertIs(is_unlike_forest(one, other, k, found), True)
            self.assertIs(is_unlike_forest(other, one, k, found), True)
            self.assertTrue(told_forest(pattern, k, above, labels))
            self.assertEqual(told_depth(above), least)
            if max(len(one), len(other)) ** len(pattern) < 20000:
                self.assertNotEqual(map_number(pattern, one), map_number(pattern, other))

    def test_some(self):
        for seed in range(30):
            k = seed % 3 + 1
            one, other = some_web(seed, 3, 0.5, (0, 1)), some_web(seed + 31, 3, 0.5, (0, 1))
            try:
                found = unlike_forest(one, other, k)
            except TooMany as error:
                self.assertEqual(error.most, 64)
                continue
            if found is None:
                self.assertIsNone(least_apart(one, other, k))
            else:
                self.assertIs(is_unlike_forest(one, other, k, found), True)

    def test_judge(self):
        right = (SIDES, (None, 0, 1), (0, 1, 2))
        self.assertIs(is_unlike_forest(RING, TWO, 2, right), True)
        self.assertIs(is_unlike_forest(RING, TWO, 2, (SIDES, (2, 0, None), (1, 2, 0))), True)
        # Deeper than the least round; a pattern with equal numbers; a forest of another pattern.
        tail = Web((-1,) * 4, ((0, 1), (0, 2), (1, 2), (2, 3)))
        for value in STRANGE + (right[:2], list(right), right + ((),), (SIDES.ties,) + right[1:], (SIDES, right[1:]), (None,) + right[1:],
                                (tail, (None, 0, 1, 2), (0, 1, 2, 0)), (path(3), (None, 0, 1), (0, 1, 2)),
                                (path(3), (1, None, 1), (1, 0, 1)), (SIDES, (None, 0, 1), (0, 1, 0)), (SIDES, (None, 0, 1), (0, True, 2)),
                                (SIDES, (None, 0, 0), (0, 1, 2)), (full(4), (None, 0, 1), (0, 1, 2))):
            self.assertIs(is_unlike_forest(RING, TWO, 2, value), False)
        self.assertIs(is_unlike_forest(RING, TWO, 2, (tail, (2, 0, None, 2), (1, 2, 0, 1))), True)
        self.assertIs(is_unlike_forest(RING, TWO, 1, None), False)
        self.assertIs(is_unlike_forest(RING, TWO, 1, right), False)
        # The pattern can have a map number of many digits.
        wide = Web((-1,) * 40, ())
        self.assertIs(is_unlike_forest(full(8), full(7), 3, (wide, (None,) * 40, (0,) * 40)), True)

    def test_refusals(self):
        for function, more in ((unlike_forest, ()), (is_unlike_forest, (None,))):
            for web in STRANGE:
                check_refused(self, InvalidWeb(""), function, web, FORTY, None, *more)
                check_refused(self, InvalidWeb(""), function, FORTY, web, None, *more)
            for k in WRONG_K:
                check_refused(self, InvalidNumber(k), function, FORTY, FORTY, k, *more)
        for k, within, beyond in ((1, 22, 23), (2, 8, 9), (3, 4, 5)):
            check_refused(self, TooMany(512), unlike_forest, full(beyond), DOT, k)
            check_refused(self, TooMany(512), unlike_forest, DOT, full(beyond), k)
            self.assertIs(is_unlike_forest(full(within), DOT, k, unlike_forest(full(within), DOT, k)), True)
        check_refused(self, TooMany(64), unlike_forest, Web(tuple(range(9)), ()), DOT, 1)
        check_refused(self, TooMany(4096), is_unlike_forest, full(17), DOT, 2, None)
        check_refused(self, TooMany(4096), is_unlike_forest, DOT, full(9), 3, None)
        self.assertIs(is_unlike_forest(full(8), DOT, 3, None), False)

    def test_patterns_and_k(self):
        for function, more in ((is_forest, (None,)), (forest_depth, (None,)), (recipe_of_forest, (None,)), (least_forest, ()), (least_depth, ())):
            for web in STRANGE:
                check_refused(self, InvalidWeb(""), function, web, None, *more)
            for k in WRONG_K:
                check_refused(self, InvalidNumber(k), function, FORTY, k, *more)


if __name__ == "__main__":
    unittest.main()
