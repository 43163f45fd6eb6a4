"""Stage 10: what recipes tell apart."""
import fractions
import itertools
import math
import random
import unittest

import told
from fivealike.colour.alike import least_apart
from fivealike.errors import InvalidNumber, InvalidRecipe, InvalidWeb, TooMany
from fivealike.pattern.closure import (MOST_KEPT, MOST_SPOTS, are_kept, is_unlike_recipe, kept_recipes, type_sums,
                                       types_at, unlike_recipe)
from fivealike.web.webs import Web, beside, renamed
from fivealike.width.recipes import is_open, is_recipe, number_of, recipe_depth, recipe_places
from helper import (DOT, FORTY, NO_WEB, RING, STRANGE, TWO, check_refused, full, path, ring, some_names, some_web,
                    twisted)
from test_recipes import BENT, THREE, closed, some_recipe, told_lines

PAIR, LOOSE = Web((0, 0), ((0, 1),)), Web((0, 0), ())
KEPT = ((("one",),), (("same", 0, 1),), (("tie", 0, 1),))
WRONG_K = (0, 4, -1, True, False, None, "1", (1,), 10 ** 99, [])
WRONG_DEPTHS = (-1, 100, True, False, None, "0", (0,), 10 ** 99)


def some_pairs():
    """Pairs of small webs and a k."""
    for seed in range(21):
        k = seed % 3 + 1
        many = seed % 4 if seed % 3 else seed % 5
        one = some_web(seed, min(many, 3), 0.5, (0,) if seed % 2 else (-1, 0, 2))
        yield one, some_web(seed + 70, min(many + seed % 2, 3), 0.5, (0,) if seed % 2 else (-1, 0, 2)), k
        yield one, renamed(one, some_names(seed, len(one))), k
    yield from [(RING, TWO, 1), (RING, TWO, 2), (NO_WEB, NO_WEB, 1), (NO_WEB, DOT, 1), (DOT, NO_WEB, 3), (PAIR, LOOSE, 2),
                (path(4), beside(path(2), path(2)), 1), (path(5, 1), path(5, 2), 1), (path(6), path(6), 1)]


def told_types(one, other, k, m, depth):
    """The types, numbered as they come first, by the words."""
    known = {}
    found = []
    for own in told.types((one, other), k, m, depth):
        found.append({row: known.setdefault(own[row], len(known)) for row in sorted(own)})
    return tuple(found)


def values_on(recipe, k, m, web, rows):
    """The numbers of the last line's table for rows of m points, by the words."""
    places, table = told_lines(k, recipe, web)[-1]
    return [table[tuple([row[place] for place in places])] for row in rows]


def rank(rows):
    """How many of the rows of numbers are independent."""
    left = [[fractions.Fraction(number) for number in row] for row in rows]
    found = 0
    for at in range(len(left[0]) if left else 0):
        fit = [row for row in left if row[at] != 0]
        if fit:
            found += 1
            left.remove(fit[0])
            left = [[a - row[at] / fit[0][at] * b for a, b in zip(row, fit[0])] for row in left]
    return found


class Types(unittest.TestCase):
    def test_told(self):
        for one, other, k in some_pairs():
            for m in range(k + 2):
                for depth in (0, 1, 2, 99):
                    made = types_at(one, other, k, m, depth)
                    self.assertEqual(made, told_types(one, other, k, m, min(depth, 4)))
                    for own in made:
                        self.assertEqual(list(own), sorted(own))

    def test_limits(self):
        self.assertEqual(types_at(full(8), DOT, 3, 0, 0), ({(): 0}, {(): 0}))
        self.assertEqual(len(types_at(FORTY, DOT, 1, 2, 9)[0]), 1600)
        check_refused(self, TooMany(4096), types_at, full(9), DOT, 3, 0, 0)
        check_refused(self, TooMany(4096), types_at, DOT, full(17), 2, 3, 0)


class Kept(unittest.TestCase):
    def check_kept(self, one, other, k, m, depth):
        types = told_types(one, other, k, m, min(depth, 4))
        many = len(set(types[0].values()) | set(types[1].values()))
        kept = kept_recipes(one, other, k, m, depth)
        self.assertEqual(len(kept), many)
        self.assertIs(are_kept(one, other, k, m, depth, kept), True)
        rows = [list(types[which]) for which in (0, 1)]
        values = []
        for recipe in kept:
            self.assertTrue(is_open(k, recipe))
            self.assertLessEqual(recipe_depth(recipe, k), depth)
            self.assertTrue(all(place < m for place in recipe_places(recipe, k)[-1]))
            values.append(values_on(recipe, k, m, one, rows[0]) + values_on(recipe, k, m, other, rows[1]))
        self.assertEqual(rank(values), many)
        self.check_sums(type_sums(one, other, k, m, depth, kept), types, values, many)

    def check_sums(self, sums, types, values, many):
        numbers = list(types[0].values()) + list(types[1].values())
        self.assertEqual(len(sums), many)
        for told_type, (whole, multiples) in enumerate(sums):
            self.assertGreaterEqual(whole, 1)
            self.assertEqual(math.gcd(whole, *multiples), 1)
            for at, number in enumerate(numbers):
                total = sum([times * row[at] for times, row in zip(multiples, values)])
                self.assertEqual(total, whole if number == told_type else 0)

    def test_told(self):
        for one, other, k in some_pairs():
            for m in range(k + 2):
                for depth in (0, 1, 2, 99):
                    try:
                        self.check_kept(one, other, k, m, depth)
                    except TooMany as error:
                        self.assertEqual(error.most, 64)
                        types = told_types(one, other, k, k + 1, min(depth, 4))
                        self.assertGreater(len(set(types[0].values()) | set(types[1].values())), 64)

    def test_larger(self):
        for one, other, k, m in ((ring(8), beside(ring(4), ring(4)), 2, 3), (path(10), path(10), 1, 1), (ring(22), ring(22), 1, 2),
                                 (twisted(full(3), ()), twisted(full(3), ((0, 1),)), 2, 2), (path(7), path(7), 1, 2)):
            kept = kept_recipes(one, other, k, m, 99)
            self.assertIs(are_kept(one, other, k, m, 99, kept), True)
            self.assertEqual(len(type_sums(one, other, k, m, 99, kept)), len(kept))

    def test_no_points(self):
        self.assertIs(are_kept(NO_WEB, NO_WEB, 2, 0, 5, ((("one",),),)), True)
        self.assertIs(are_kept(NO_WEB, NO_WEB, 2, 1, 5, ()), True)
        self.assertEqual(type_sums(NO_WEB, NO_WEB, 1, 1, 0, ()), ())
        self.assertEqual(kept_recipes(NO_WEB, NO_WEB, 3, 4, 0), ())
        self.assertEqual(type_sums(NO_WEB, DOT, 1, 0, 1, ((("one",),), (("point", 0), ("sum", 0, 0)))), ((1, (1, -1)), (1, (0, 1))))

    def test_judge(self):
        one = ("one",)
        self.assertTrue(are_kept(RING, TWO, 2, 2, 0, KEPT))
        for right in ((KEPT[1], KEPT[0], KEPT[2]), (KEPT[0], KEPT[1], (("tie", 0, 1), ("same", 0, 1), one)[:1]),
                      ((one, one, ("glue", 0, 1)), KEPT[1], KEPT[2]), ((("point", 0), ("point", 1), ("glue", 0, 1)),) + KEPT[1:]):
            self.assertIs(are_kept(RING, TWO, 2, 2, 0, right), True)
        for wrong in STRANGE + (KEPT[:2], KEPT + KEPT[:1], list(KEPT), KEPT[:2] + (("tie", 0, 1),), (KEPT[0], KEPT[0], KEPT[2]),
                                (KEPT[0], KEPT[1], (("tie", 0, 2),)), (KEPT[0], KEPT[1], (("tie", 1, 2),)),
                                (KEPT[0], KEPT[1], (("point", 0),)), (KEPT[0], KEPT[1], [("tie", 0, 1)]),
                                (KEPT[0], KEPT[1], (("tie", 0, 1), ("sum", 1, 0))), (KEPT[0], KEPT[1], (("tie", 0, True),)),
                                (KEPT[0], KEPT[1], ()), (KEPT[0], KEPT[1], None), (THREE, KEPT[1], KEPT[2]),
                                (KEPT[0], KEPT[1], (("tie", 0, 1),) * 2001)):
            self.assertIs(are_kept(RING, TWO, 2, 2, 0, wrong), False)
            check_refused(self, InvalidRecipe(""), type_sums, RING, TWO, 2, 2, 0, wrong)
        # A sum is one too deep, but right one round later, in the place of another table with equal numbers.
        deep = (("tie", 0, 2), ("tie", 1, 2), ("glue", 0, 1), ("sum", 2, 2))
        self.assertFalse(are_kept(path(3), path(3), 2, 2, 0, KEPT[:2] + (deep,)))
        self.assertEqual([are_kept(RING, RING, 1, 1, depth, ((("point", 0), ("sum", 0, 0)),)) for depth in (0, 1)], [False, True])

    def test_long_ones(self):
        # Lines times rows at 400,000 and above: 512 rows let 781 lines, 484 rows let 826.
        for web, k, most in ((full(8), 2, 781), (Web((0,) * 22, ()), 1, 826)):
            right = ((("one",),) * most,)
            self.assertIs(are_kept(web, web, k, 0, 0, right), True)
            self.assertIs(are_kept(web, web, k, 0, 0, ((("one",),) * (most + 1),)), False)
            self.assertEqual(type_sums(web, DOT, k, 0, 0, right), ((1, (1,)),))
            check_refused(self, InvalidRecipe(""), type_sums, web, DOT, k, 0, 0, ((("one",),) * (most + 1),))

    def test_many_types(self):
        # More than 64 types can be judged, but are not told.
        colours = Web(tuple(range(9)), ())
        kept = tuple([(("colour", 0, here), ("colour", 1, there), ("glue", 0, 1)) for here in range(9) for there in range(9)])
        check_refused(self, TooMany(64), kept_recipes, colours, colours, 1, 2, 0)
        check_refused(self, TooMany(64), kept_recipes, colours, colours, 1, 0, 5)
        self.assertIs(are_kept(colours, colours, 1, 2, 0, kept), True)
        self.assertIs(are_kept(colours, colours, 1, 2, 0, kept[:80] + kept[:1]), False)
        sums = type_sums(colours, colours, 1, 2, 0, kept)
        self.assertEqual([(whole, multiples.index(1), sum(multiples)) for whole, multiples in sums],
                         [(1, at, 1) for at in range(81)])
        eight = Web(tuple(range(8)), ())
        self.assertEqual(len(kept_recipes(eight, eight, 1, 2, 0)), 64)

    def test_great_numbers(self):
        # Tables with great numbers: by 8 ** 40 the same sums.
        power = [("point", 0), ("sum", 0, 0)] + [("glue", 1 + at, 1) for at in range(39)]
        power = tuple(power + [("same", 0, 1), ("glue", len(power) - 1, len(power))])
        kept = (KEPT[0], power, KEPT[2])
        self.assertIs(are_kept(full(8), full(8), 2, 2, 1, (KEPT[0], power)), True)
        self.assertEqual(type_sums(full(8), full(8), 2, 2, 1, (KEPT[0], power)), ((8 ** 40, (0, 1)), (8 ** 40, (8 ** 40, -1))))
        self.assertIs(are_kept(full(8), full(8), 2, 2, 1, kept), False)

    def test_no_more_than_types(self):
        """Recipes have one number on rows of one type."""
        for seed in range(40):
            k = seed % 3 + 1
            one, other = some_web(seed, 3, 0.5), some_web(seed + 3, 3, 0.5)
            recipe = some_recipe(seed, k, 12)
            depth, places = recipe_depth(recipe, k), recipe_places(recipe, k)[-1]
            m = max(places, default=-1) + 1
            types = told_types(one, other, k, m, min(depth, 3))
            numbers = {}
            for web, own in zip((one, other), types):
                for row, number in zip(own, values_on(recipe, k, m, web, list(own))):
                    if depth <= 3:
                        self.assertEqual(numbers.setdefault(own[row], number), number)


class Unlike(unittest.TestCase):
    def test_told(self):
        for one, other, k in some_pairs():
            least = least_apart(one, other, k)
            for depth in (0, 1, 2, 3, 99):
                try:
                    recipe = unlike_recipe(one, other, k, depth)
                except TooMany as error:
                    types = told_types(one, other, k, k + 1, least - 1)
                    self.assertGreater(len(set(types[0].values()) | set(types[1].values())), 64)
                    self.assertEqual(error.most, 64)
                    continue
                if least is None or depth < least:
                    self.assertIsNone(recipe)
                    continue
                self.assertTrue(is_recipe(k, recipe))
                self.assertLessEqual(recipe_depth(recipe, k), depth)
                self.assertNotEqual(number_of(recipe, k, one), number_of(recipe, k, other))
                self.assertIs(is_unlike_recipe(one, other, k, depth, recipe), True)
                self.assertIs(is_unlike_recipe(one, other, k, least - 1, recipe), False)

    def test_larger(self):
        for one, other, k in ((ring(8), beside(ring(4), ring(4)), 2), (ring(7), beside(ring(3), ring(4)), 2),
                              (twisted(full(3), ()), twisted(full(3), ((0, 1),)), 2), (path(5), path(5, 0), 1),
                              (beside(ring(4), path(1)), beside(path(4), path(1)), 1)):
            least = least_apart(one, other, k)
            recipe = unlike_recipe(one, other, k, 99)
            self.assertIs(is_unlike_recipe(one, other, k, least, recipe), True)
            self.assertIsNone(unlike_recipe(one, other, k, least - 1))

    def test_types_limit(self):
        # At the round 1 the webs are apart, and one below there are few types.
        colours = Web(tuple(range(9)) + (0,), ())
        self.assertIs(is_unlike_recipe(colours, DOT, 1, 1, unlike_recipe(Web((0,) * 9, ()), DOT, 1, 1)), True)
        check_refused(self, TooMany(64), unlike_recipe, colours, DOT, 1, 1)
        # Alike to the depth: nothing is looked at.
        self.assertIsNone(unlike_recipe(colours, DOT, 1, 0))
        self.assertIsNone(unlike_recipe(colours, colours, 1, 99))
        late = (path(20, 8), path(20, 7))
        check_refused(self, TooMany(64), unlike_recipe, late[0], late[1], 1, 99)

    def test_judge(self):
        self.assertIs(is_unlike_recipe(RING, TWO, 2, 3, THREE), True)
        for value in STRANGE + (THREE[:7], THREE[1:], list(THREE), BENT, (("one",),), (("point", 0), ("sum", 0, 0)), THREE * 300,
                                THREE[:7] + (("sum", True, 6),)):
            self.assertIs(is_unlike_recipe(RING, TWO, 2, 99, value), False)
        self.assertIs(is_unlike_recipe(RING, TWO, 2, 2, THREE), False)
        self.assertIs(is_unlike_recipe(RING, TWO, 1, 3, THREE), False)
        self.assertIs(is_unlike_recipe(RING, TWO, 1, 9, None), False)
        # 1851 lines and 216 rows are just within 400,000.
        for many, right in ((1851, True), (1852, False)):
            recipe = (("one",),) * (many - 8) + tuple([line[:1] + tuple([at + many - 8 for at in line[1:]])
                                                       if line[0] == "glue" else line[:2] + (line[2] + many - 8,)
                                                       if line[0] == "sum" else line for line in THREE])
            self.assertIs(is_unlike_recipe(RING, TWO, 2, 3, recipe), right)
            self.assertIs(is_unlike_recipe(TWO, RING, 2, 3, recipe), right)

    def test_untrue(self):
        # Tables of unlike recipes can be one, and few lines tell little.
        self.assertEqual(number_of((("point", 0), ("sum", 0, 0)), 1, RING), number_of((("point", 1), ("sum", 1, 0)), 1, RING))
        self.assertEqual(least_apart(RING, TWO, 2), 3)
        for seed in range(300):
            recipe = closed(some_recipe(seed, 2, 3), 2)
            if len(recipe) == 4:
                self.assertEqual(number_of(recipe, 2, RING), number_of(recipe, 2, TWO))


class Refusals(unittest.TestCase):
    TYPED = ((types_at, ()), (kept_recipes, ()), (are_kept, (None,)), (type_sums, (None,)))
    DEEP = ((unlike_recipe, ()), (is_unlike_recipe, (None,)))

    def test_constants(self):
        self.assertEqual((MOST_KEPT, MOST_SPOTS), (64, 512))

    def test_wrong_arguments(self):
        for function, more in self.TYPED:
            for web in STRANGE:
                check_refused(self, InvalidWeb(""), function, web, FORTY, None, None, None, *more)
                check_refused(self, InvalidWeb(""), function, FORTY, web, None, None, None, *more)
            for k in WRONG_K:
                check_refused(self, InvalidNumber(k), function, FORTY, FORTY, k, None, None, *more)
            for k in (1, 2, 3):
                for m in (-1, k + 2, True, False, None, "0", (0,), 10 ** 99):
                    check_refused(self, InvalidNumber(m), function, FORTY, FORTY, k, m, None, *more)
            for depth in WRONG_DEPTHS:
                check_refused(self, InvalidNumber(depth), function, FORTY, FORTY, 3, 4, depth, *more)
        for function, more in self.DEEP:
            for web in STRANGE:
                check_refused(self, InvalidWeb(""), function, web, FORTY, None, None, *more)
                check_refused(self, InvalidWeb(""), function, FORTY, web, None, None, *more)
            for k in WRONG_K:
                check_refused(self, InvalidNumber(k), function, FORTY, FORTY, k, None, *more)
            for depth in WRONG_DEPTHS:
                check_refused(self, InvalidNumber(depth), function, FORTY, FORTY, 3, depth, *more)

    def test_closure_limit(self):
        for k, within, beyond in ((1, 22, 23), (2, 8, 9), (3, 4, 5)):
            for one, other in ((full(beyond), DOT), (DOT, full(beyond)), (FORTY, FORTY)):
                check_refused(self, TooMany(512), kept_recipes, one, other, k, 1, 0)
                check_refused(self, TooMany(512), are_kept, one, other, k, 1, 0, None)
                check_refused(self, TooMany(512), type_sums, one, other, k, 1, 0, None)
                check_refused(self, TooMany(512), unlike_recipe, one, other, k, 0)
            web = full(within)
            self.assertTrue(are_kept(web, DOT, k, 1, 0, kept_recipes(web, DOT, k, 1, 0)))
            self.assertIsNone(unlike_recipe(web, web, k, 9))
            self.assertIs(is_unlike_recipe(full(beyond), DOT, k, 1, (("point", 0), ("sum", 0, 0))), True)
        check_refused(self, TooMany(4096), is_unlike_recipe, full(17), DOT, 2, 0, None)
        check_refused(self, TooMany(4096), is_unlike_recipe, DOT, full(9), 3, 0, None)
        self.assertIs(is_unlike_recipe(full(8), DOT, 3, 1, (("point", 0), ("sum", 0, 0))), True)


if __name__ == "__main__":
    unittest.main()
