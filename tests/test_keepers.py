"""Stage 14: one side alone."""
import itertools
import unittest

from fivealike.errors import InvalidNumber, InvalidTable, InvalidWeb, TooMany
from fivealike.side.keepers import (MOST_PARTS, greatest_family, is_family, is_part, is_side_answer, least_depth,
                                    led_through, side_answer)
from fivealike.web.maps import map_number, maps_of, times
from fivealike.web.webs import Web
from fivealike.width.bags import least_width
from fivealike.width.recipes import is_recipe, number_of, recipe_depth
from helper import DOT, FORTY, NO_WEB, RING, STRANGE, TWO, check_refused, full, grid, path, ring, some_web, twisted
from test_recipes import closed, some_recipe

THREE, FIVE, SPAN = full(3), ring(5), path(2)
TRIANGLES = (("tie", 0, 1), ("tie", 0, 2), ("tie", 1, 2), ("glue", 0, 1), ("glue", 2, 3), ("sum", 2, 4), ("sum", 1, 5), ("sum", 0, 6))
WRONG_K = (0, 4, -1, True, False, None, "1", (1,), 10 ** 99, [])


def told_part(one, other, pairs):
    """Whether ascending pairs are a part, by the words."""
    images = dict(pairs)
    if len(images) < len(pairs):
        return False
    if any(one.colours[a] not in (-1, other.colours[b]) for a, b in pairs):
        return False
    return all(other.is_tied(images[a], images[b]) for a, b in one.ties if a in images and b in images)


def told_parts(one, other, many):
    pairs = list(itertools.product(range(len(one)), range(len(other))))
    return [chosen for length in range(many + 1) for chosen in itertools.combinations(pairs, length)
            if told_part(one, other, chosen)]


def subparts(part, many):
    return [chosen for length in range(many + 1) for chosen in itertools.combinations(part, length)]


def told_layers(one, other, k):
    """The list of the layers, up to the first one that is followed by itself, by the words."""
    layer = set(told_parts(one, other, k))
    layers = [layer]
    while True:
        later = set()
        for part in layers[-1]:
            grown = [[tuple(sorted(set(part) | {(a, b)})) for b in range(len(other))] for a in range(len(one))]
            if all(any(told_part(one, other, chosen) and all(sub in layers[-1] for sub in subparts(chosen, k)) for chosen in those)
                   for those in grown):
                later.add(part)
        if later == layers[-1]:
            return layers
        layers.append(later)


def told_depth(one, other, k):
    """The first layer that lacks the part without pairs, None if there is none."""
    for depth, layer in enumerate(told_layers(one, other, k)):
        if () not in layer:
            return depth
    return None


def told_family(one, other, k, value):
    """Whether a set of parts is a family, by the words."""
    if () not in value or any(not told_part(one, other, part) or len(part) > k + 1 for part in value):
        return False
    for part in value:
        if any(part[:at] + part[at + 1:] not in value for at in range(len(part))):
            return False
        for a in range(len(one)) if len(part) <= k else ():
            if not any(set(part) <= set(member) and a in dict(member) for member in value):
                return False
    return True


def some_pairs():
    """Pairs of a pattern and a web, and a k."""
    for seed in range(30):
        k = seed % 3 + 1
        colours = ((0,), (-1, 0, 1), (0, 1))[seed % 3]
        yield some_web(seed, seed % 4 + (k < 3), 0.6, colours), some_web(seed + 50, seed % 3 + 1, 0.6, (0, 1)), k
    yield from [(THREE, FIVE, 1), (THREE, FIVE, 2), (FIVE, THREE, 2), (THREE, SPAN, 1), (THREE, SPAN, 2), (SPAN, DOT, 1), (NO_WEB, DOT, 1),
                (DOT, NO_WEB, 2), (NO_WEB, NO_WEB, 3), (path(4), SPAN, 2), (full(4), THREE, 2), (FIVE, SPAN, 1), (Web((3,), ()), DOT, 1),
                (Web((-1,) * 3, ()), Web((5, -1), ()), 2)]


class Parts(unittest.TestCase):
    def test_told(self):
        for one, other, _ in some_pairs():
            pairs = list(itertools.product(range(len(one)), range(len(other))))
            for many in range(3):
                for value in itertools.combinations(pairs, many):
                    self.assertIs(is_part(one, other, value), told_part(one, other, value))
        for images in maps_of(RING, TWO):
            self.assertIs(is_part(RING, TWO, tuple(enumerate(images))), True)
        self.assertIs(is_part(FORTY, DOT, tuple([(point, 0) for point in range(40)])), True)
        self.assertIs(is_part(path(40), DOT, tuple([(point, 0) for point in range(0, 40, 2)])), True)
        self.assertIs(is_part(path(40), DOT, tuple([(point, 0) for point in range(40)])), False)

    def test_any_value(self):
        for value in STRANGE[:6] + STRANGE[7:] + ((0, 0), ((0, 0, 0),), [(0, 0)], ([0, 0],), ((1, 0), (0, 1)), ((0, 0), (0, 1)), ((0, 3),),
                                                  ((5, 0),), ((0, True),), ((False, 0),), ((0, None),), ((0, 10 ** 99),), RING, ((-1, 0),)):
            self.assertIs(is_part(FIVE, THREE, value), False)
        self.assertIs(is_part(FIVE, THREE, ()), True)


class Families(unittest.TestCase):
    def test_greatest(self):
        for one, other, k in some_pairs():
            layers = told_layers(one, other, k)
            wanted = tuple(sorted([part for part in told_parts(one, other, k + 1) if all(sub in layers[-1] for sub in subparts(part, k))]))
            family = greatest_family(one, other, k)
            least = told_depth(one, other, k)
            self.assertEqual(least_depth(one, other, k), least)
            if least is not None:
                self.assertIsNone(family)
                continue
            self.assertEqual(family, wanted)
            self.assertTrue(told_family(one, other, k, set(family)))
            self.assertIs(is_family(one, other, k, family), True)
            self.assertEqual(side_answer(one, other, k)[0], "family")
            self.assertIs(is_side_answer(one, other, k, side_answer(one, other, k)), True)

    def test_member_more_or_less(self):
        for one, other, k in ((path(3), SPAN, 1), (SPAN, THREE, 1), (THREE, THREE, 2), (Web((-1, 0), ()), Web((0, 1), ()), 1)):
            family = greatest_family(one, other, k)
            for at in range(len(family)):
                less = family[:at] + family[at + 1:]
                self.assertIs(is_family(one, other, k, less), told_family(one, other, k, set(less)))
            for part in told_parts(one, other, k + 2):
                if part not in family:
                    self.assertIs(is_family(one, other, k, tuple(sorted(family + (part,)))), False)

    def test_of_maps(self):
        for one, other, k in some_pairs():
            for images in maps_of(one, other)[:5]:
                pairs = tuple(enumerate(images))
                family = tuple(sorted(subparts(pairs, k + 1)))
                self.assertIs(is_family(one, other, k, family), True)
                self.assertIs(is_side_answer(one, other, k, ("family", family)), True)
                if len(one) > k:
                    self.assertIs(is_family(one, other, k, tuple(sorted(subparts(pairs, k)))), False)

    def test_any_value(self):
        family = greatest_family(SPAN, THREE, 1)
        for value in STRANGE + (list(family), tuple(reversed(family)), family + family[-1:], family[1:], ((), None), ((), ((0, 0),)),
                                family[:-1] + (((0, 2), (1, True)),), (family,), tuple([list(part) for part in family])):
            self.assertIs(is_family(SPAN, THREE, 1, value), False)
        self.assertIs(is_family(NO_WEB, THREE, 1, ((),)), True)
        self.assertIs(is_family(SPAN, THREE, 2, family), True)
        # For k = 1 just two pairs are let at a time.
        wide = greatest_family(THREE, THREE, 2)
        self.assertEqual([is_family(THREE, THREE, k, wide) for k in (1, 2, 3)], [False, True, True])

    def test_products(self):
        for seed in range(12):
            k = seed % 2 + 1
            one = some_web(seed, 3, 0.7)
            webs = some_web(seed + 20, 3, 0.7), some_web(seed + 40, 2, 0.9)
            both = greatest_family(one, times(webs[0], webs[1]), k) is not None
            self.assertEqual(both, all(greatest_family(one, web, k) is not None for web in webs))

    def test_narrow_ones(self):
        """Who has bags of width at most k has a family exactly if it has a map."""
        for seed in range(40):
            k = seed % 3 + 1
            one, other = some_web(seed, 4, 0.5, (0, 1)), some_web(seed + 70, 3, 0.6, (0, 1))
            if least_width(one) <= k:
                self.assertEqual(least_depth(one, other, k) is None, map_number(one, other) > 0)

    def test_untrue(self):
        # A family, but no map; families both ways, but unlike webs.
        self.assertIsNone(least_depth(THREE, SPAN, 1))
        self.assertEqual(map_number(THREE, SPAN), 0)
        self.assertIsNone(least_depth(SPAN, path(3), 2))
        self.assertIsNone(least_depth(path(3), SPAN, 2))


class Answers(unittest.TestCase):
    def check_recipe(self, one, other, k):
        kind, recipe = answer = side_answer(one, other, k)
        self.assertEqual(kind, "recipe")
        self.assertIs(is_side_answer(one, other, k, answer), True)
        self.assertTrue(is_recipe(k, recipe))
        self.assertEqual(recipe_depth(recipe, k), least_depth(one, other, k))
        self.assertTrue(number_of(recipe, k, one) > 0 == number_of(recipe, k, other))

    def test_recipes(self):
        found = 0
        for one, other, k in some_pairs():
            if least_depth(one, other, k) is not None:
                found += 1
                self.check_recipe(one, other, k)
        self.assertGreater(found, 12)

    def test_larger(self):
        for one, other, k in ((ring(7), ring(9), 2), (full(4), THREE, 3), (full(4), grid(2, 3), 3), (path(6), path(5, 2), 1),
                              (ring(9), path(2), 2), (Web((0, 1) * 5, path(10).ties), Web((0, 1) * 4, path(8).ties), 1),
                              (twisted(THREE, ()), SPAN, 2), (full(3), twisted(THREE, ((0, 1),)), 2)):
            if least_depth(one, other, k) is not None:
                self.check_recipe(one, other, k)
            else:
                self.assertIs(is_side_answer(one, other, k, side_answer(one, other, k)), True)

    def test_long_chains(self):
        # Parts that fall one behind the other: recipes get deep, as colours lead along a ring and a path.
        one = Web(tuple([point % 3 for point in range(9)]), ring(9).ties)
        other = Web(tuple([point % 3 for point in range(40)]), path(40).ties)
        self.assertEqual(least_depth(one, other, 1), 20)
        self.check_recipe(one, other, 1)
        long = Web((5,) + tuple([point % 3 for point in range(1, 39)]), path(39).ties)
        self.assertIs(is_side_answer(long, other, 1, side_answer(long, other, 1)), True)

    def test_least_is_least(self):
        """No recipe of a lesser depth is above 0 on the one and 0 on the other."""
        for seed in range(60):
            k = seed % 2 + 1
            recipe = closed(some_recipe(seed, k, 9), k)
            for one, other in ((THREE, FIVE), (THREE, SPAN), (SPAN, DOT), (FIVE, SPAN), (full(4), THREE)):
                if number_of(recipe, k, one) > 0 == number_of(recipe, k, other):
                    self.assertIsNotNone(least_depth(one, other, k))
                    self.assertGreaterEqual(recipe_depth(recipe, k), least_depth(one, other, k))
                    self.assertIs(is_side_answer(one, other, k, ("recipe", recipe)), True)

    def test_wrong_answers(self):
        self.assertIs(is_side_answer(THREE, FIVE, 2, ("recipe", TRIANGLES)), True)
        for value in STRANGE + (("recipe", TRIANGLES[:7]), ("recipe", list(TRIANGLES)), ["recipe", TRIANGLES], ("family", TRIANGLES),
                                ("recipe", TRIANGLES, ()), TRIANGLES, ("recipe", (("one",),)), ("recipe", ()), ("family", ()), ("recipe",),
                                ("recipe", (("point", 0), ("sum", 0, 0))), ("family", None), ("family", ((),)), ("recipe", TRIANGLES * 251)):
            self.assertIs(is_side_answer(THREE, FIVE, 2, value), False)
        self.assertIs(is_side_answer(FIVE, THREE, 2, ("recipe", TRIANGLES)), False)
        self.assertIs(is_side_answer(THREE, FIVE, 1, ("recipe", TRIANGLES)), False)
        # Of any depth.
        deep = TRIANGLES[:7] + (("point", 1), ("glue", 6, 7), ("sum", 1, 8), ("sum", 0, 9))
        self.assertEqual(recipe_depth(deep, 2), 4)
        self.assertIs(is_side_answer(THREE, FIVE, 2, ("recipe", deep)), True)
        # Lines times rows: 512 rows let 781 lines.
        for many, right in ((781, True), (782, False)):
            recipe = (("one",),) * (many - 2) + (("point", 0), ("sum", 0, many - 2))
            self.assertIs(is_side_answer(DOT, NO_WEB, 3, ("recipe", recipe)), True)
            self.assertIs(is_side_answer(full(8), NO_WEB, 2, ("recipe", recipe)), right)
        # Patterns of any size.
        power = [("point", 0), ("sum", 0, 0)] + [("glue", at, at) for at in range(1, 60)]
        self.assertIs(is_side_answer(THREE, NO_WEB, 1, ("recipe", tuple(power))), True)


class Through(unittest.TestCase):
    def test_told(self):
        for one, other, third, k in ((path(3), SPAN, THREE, 1), (FIVE, THREE, full(4), 2), (path(4), path(4), SPAN, 1), (NO_WEB, DOT, SPAN, 3),
                                     (Web((-1, -1), ()), Web((0, 1), ()), Web((0, 1, 1), ()), 1)):
            first, last = greatest_family(one, other, k), greatest_family(other, third, k)
            made = led_through(one, other, third, k, first, last)
            wanted = set()
            for part, lead in itertools.product(first, last):
                if {b for _, b in part} == {b for b, _ in lead}:
                    wanted.add(tuple([(a, dict(lead)[b]) for a, b in part]))
            self.assertEqual(made, tuple(sorted(wanted)))
            self.assertIs(is_family(one, third, k, made), True)

    def test_wrong_arguments(self):
        right = greatest_family(SPAN, THREE, 1)
        for web in STRANGE:
            check_refused(self, InvalidWeb(""), led_through, web, None, None, None, None, None)
            check_refused(self, InvalidWeb(""), led_through, SPAN, web, None, None, None, None)
            check_refused(self, InvalidWeb(""), led_through, SPAN, THREE, web, None, None, None)
        for k in WRONG_K:
            check_refused(self, InvalidNumber(k), led_through, SPAN, THREE, THREE, k, None, None)
        for value in STRANGE + (right[1:], list(right), greatest_family(THREE, THREE, 1)):
            check_refused(self, InvalidTable(""), led_through, SPAN, THREE, THREE, 1, value, None)
            check_refused(self, InvalidTable(""), led_through, DOT, SPAN, THREE, 1, greatest_family(DOT, SPAN, 1),
                          value if value != greatest_family(THREE, THREE, 1) else None)


class Refusals(unittest.TestCase):
    LIMITED = ((greatest_family, ()), (least_depth, ()), (side_answer, ()), (is_side_answer, (None,)))

    def test_wrong_arguments(self):
        for function, more in self.LIMITED + ((is_family, (None,)),):
            for web in STRANGE:
                check_refused(self, InvalidWeb(""), function, web, FORTY, None, *more)
                check_refused(self, InvalidWeb(""), function, FORTY, web, None, *more)
            for k in WRONG_K:
                check_refused(self, InvalidNumber(k), function, FORTY, FORTY, k, *more)
        check_refused(self, InvalidWeb(""), is_part, None, RING, ())
        check_refused(self, InvalidWeb(""), is_part, RING, None, ())

    def test_limits(self):
        self.assertEqual(MOST_PARTS, 20000)
        for function, more in self.LIMITED:
            # The rows limit comes first, for both webs.
            for k, beyond in ((2, 17), (3, 9)):
                check_refused(self, TooMany(4096), function, full(beyond), NO_WEB, k, *more)
                check_refused(self, TooMany(4096), function, NO_WEB, full(beyond), k, *more)
                check_refused(self, TooMany(4096), function, full(beyond), full(beyond), k, *more)
            # 141 ** 2 and 25 ** 3 are within, 145 ** 2 and 29 ** 3 beyond.
            check_refused(self, TooMany(20000), function, full(12), full(12), 2, *more)
            check_refused(self, TooMany(20000), function, full(15), full(10), 2, *more)
            check_refused(self, TooMany(20000), function, full(7), full(4), 3, *more)
            check_refused(self, TooMany(20000), function, full(6), full(6), 3, *more)
        self.assertEqual(least_depth(full(14), Web((0,) * 10, ()), 2), 2)
        self.assertEqual(least_depth(full(2), full(8), 3), None)
        self.assertEqual(least_depth(full(8), full(3), 3), 4)
        self.assertEqual(least_depth(FORTY, NO_WEB, 1), 1)
        self.assertEqual(len(greatest_family(FORTY, DOT, 1)), 1 + 40 + 780)
        # Families themselves have no limit.
        self.assertIs(is_family(FORTY, FORTY, 3, ((),)), False)
        self.assertIs(is_family(NO_WEB, FORTY, 3, ((),)), True)


if __name__ == "__main__":
    unittest.main()
