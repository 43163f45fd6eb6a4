"""Stage 2: maps, counted by trial."""
import itertools
import unittest

from fivealike.errors import InvalidMap, InvalidOperation, InvalidWeb, TooMany
from fivealike.web.maps import (behind, is_map, is_one_to_one, is_same, map_number, maps_of, one_to_one_number, times,
                                told_number)
from fivealike.web.webs import Web, beside, renamed
from helper import DOT, FORTY, NO_WEB, RING, STRANGE, check_refused, full, path, some_names, some_web

LONE = Web((-1,), ())
LONE_TIE = Web((-1, -1), ((0, 1),))
TRIANGLE = full(3, -1)
TRIED = (maps_of, map_number, one_to_one_number, told_number)


def are_tied(web, here, there):
    return (min(here, there), max(here, there)) in web.ties


def told_map(pattern, web, images):
    """Whether the images are a map by the words of the document."""
    for point, image in enumerate(images):
        if pattern.colours[point] >= 0 and web.colours[image] != pattern.colours[point]:
            return False
    return all(are_tied(web, images[here], images[there]) for here, there in pattern.ties)


def told_maps(pattern, web):
    return [images for images in itertools.product(range(len(web)), repeat=len(pattern))
            if told_map(pattern, web, images)]


def star(ties):
    return Web((-1,) * (ties + 1), tuple([(0, point) for point in range(1, ties + 1)]))


class Maps(unittest.TestCase):
    def test_told(self):
        for seed in range(40):
            colours = (-1, 0, 1) if seed % 2 else (-1, 0)
            pattern = some_web(seed, seed % 4 + 1, 0.5, colours[:seed % 3 + 1])
            web = some_web(seed + 100, seed % 7 if seed % 4 < 3 else 4, 0.5, colours)
            maps = told_maps(pattern, web)
            unlike = [images for images in maps if len(set(images)) == len(images)]
            pairs = [pair for pair in itertools.combinations(range(len(pattern)), 2) if pair not in pattern.ties]
            kept = [images for images in unlike if not any(are_tied(web, images[i], images[j]) for i, j in pairs)]
            self.assertEqual(maps_of(pattern, web), tuple(maps))
            self.assertEqual(map_number(pattern, web), len(maps))
            self.assertEqual(one_to_one_number(pattern, web), len(unlike))
            self.assertEqual(told_number(pattern, web), len(kept))
            for images in itertools.product(range(len(web) + 1), repeat=len(pattern)):
                self.assertIs(is_map(pattern, web, images), images in maps)
                self.assertIs(is_one_to_one(pattern, web, images), images in unlike)

    def test_told_ones(self):
        # Of the one to one maps of a path into a ring and into a full web: the ends stay untied, or not.
        self.assertEqual([told_number(path(3), RING), one_to_one_number(path(3), RING)], [12, 12])
        self.assertEqual([told_number(path(3), full(3)), one_to_one_number(path(3), full(3))], [0, 6])
        self.assertEqual([told_number(full(3), full(4)), told_number(path(4), RING), told_number(Web((0, 0), ()), RING)],
                         [24, 12, 18])

    def test_colour_below_nought_in_a_web(self):
        web = Web((-1, 0), ())
        self.assertEqual(maps_of(LONE, web), ((0,), (1,)))
        self.assertEqual(maps_of(DOT, web), ((1,),))
        self.assertEqual(maps_of(Web((9,), ()), Web((9, -1), ())), ((0,),))

    def test_without_points(self):
        for function in (map_number, one_to_one_number, told_number):
            self.assertEqual([function(NO_WEB, NO_WEB), function(NO_WEB, RING), function(LONE, NO_WEB)], [1, 1, 0])
        self.assertEqual([maps_of(NO_WEB, NO_WEB), maps_of(NO_WEB, FORTY), maps_of(FORTY, NO_WEB)], [((),), ((),), ()])
        self.assertTrue(is_map(NO_WEB, NO_WEB, ()))

    def test_limit(self):
        ten = Web((0,) * 10, ())
        self.assertEqual(map_number(Web((-1,) * 5, ()), ten), 100000)
        self.assertEqual(map_number(FORTY, DOT), 1)
        self.assertEqual(map_number(DOT, FORTY), 40)
        for function in TRIED:
            check_refused(self, TooMany(100000), function, Web((1,) * 6, ()), ten)
            check_refused(self, TooMany(100000), function, Web((1,) * 17, ()), Web((0, 0), ()))
            check_refused(self, TooMany(100000), function, Web((-1,) * 5, ()), full(11))
            check_refused(self, InvalidWeb(""), function, None, None)
            check_refused(self, InvalidWeb(""), function, None, RING)
            check_refused(self, InvalidWeb(""), function, FORTY, RING.ties)
            self.assertEqual(len(maps_of(Web((1,) * 16, ()), Web((0, 0), ()))), 0)

    def test_judges_take_any_value(self):
        for value in STRANGE + ((0, True), (False, 1), (0, 1, 2), [0, 1], (0,), (0, 6), (0, -1), (0, None)):
            for function in (is_map, is_one_to_one):
                self.assertIs(function(LONE_TIE, RING, value), False)
            self.assertIs(is_same(RING, RING, value), False)
        for function in (is_map, is_one_to_one, is_same):
            check_refused(self, InvalidWeb(""), function, None, RING, ())
            check_refused(self, InvalidWeb(""), function, RING, (), ())

    def test_few_patterns(self):
        for seed in range(10):
            web = some_web(seed, 6, 0.5)
            triples = itertools.combinations(range(6), 3)
            triangles = [triple for triple in triples if all(pair in web.ties for pair in itertools.combinations(triple, 2))]
            self.assertEqual(map_number(LONE, web), 6)
            self.assertEqual(map_number(LONE_TIE, web), 2 * len(web.ties))
            self.assertEqual(map_number(TRIANGLE, web), 6 * len(triangles))
            for ties in range(5):
                self.assertEqual(map_number(star(ties), web), sum(degree ** ties for degree in web.degrees))


class Same(unittest.TestCase):
    def test_same(self):
        for seed in range(12):
            one = some_web(seed, 4, 0.5, (-1, 0))
            other = renamed(one, some_names(seed, 4)) if seed % 2 else some_web(seed + 50, 4, 0.5, (-1, 0))
            for images in itertools.product(range(4), repeat=4):
                right = sorted(images) == [0, 1, 2, 3] and all(
                    one.colours[i] == other.colours[images[i]] for i in range(4)) and all(
                    are_tied(one, i, j) == are_tied(other, images[i], images[j])
                    for i, j in itertools.combinations(range(4), 2))
                self.assertIs(is_same(one, other, images), right)
            if seed % 2:
                self.assertTrue(is_same(one, other, some_names(seed, 4)))

    def test_colours_and_ties(self):
        self.assertFalse(is_same(LONE, DOT, (0,)))
        self.assertTrue(is_map(LONE, DOT, (0,)))
        self.assertTrue(is_same(LONE, LONE, (0,)))
        # A one to one map onto all points that does not lead back.
        self.assertTrue(is_one_to_one(Web((0, 0), ()), full(2), (0, 1)))
        self.assertFalse(is_same(Web((0, 0), ()), full(2), (0, 1)))
        self.assertFalse(is_same(full(2), Web((0, 0), ()), (0, 1)))
        self.assertTrue(is_same(NO_WEB, NO_WEB, ()))
        self.assertFalse(is_same(DOT, Web((0, 0), ()), (0,)))
        self.assertFalse(is_same(Web((0, 0), ()), DOT, (0, 0)))

    def test_untrue(self):
        two_ties = beside(full(2), full(2))
        self.assertTrue(map_number(full(2), two_ties) > 0 and map_number(two_ties, full(2)) > 0)
        long, short = beside(path(4), path(2)), beside(path(3), path(3))
        for pattern in (LONE, Web((-1, -1), ()), LONE_TIE, star(2), TRIANGLE):
            self.assertEqual(map_number(pattern, long), map_number(pattern, short))
        self.assertFalse(any(is_same(long, short, images) for images in itertools.permutations(range(6))))


class Products(unittest.TestCase):
    def test_product(self):
        for seed in range(8):
            one, other = some_web(seed, 3, 0.6, (-1, 0, 1)), some_web(seed + 30, 4, 0.6, (-1, 0, 1))
            made = times(one, other)
            self.assertEqual(len(made), 12)
            for a, b in itertools.product(range(3), range(4)):
                colours = (one.colours[a], other.colours[b])
                self.assertEqual(made.colours[a * 4 + b], colours[0] if colours[0] == colours[1] else -1)
                for c, d in itertools.product(range(3), range(4)):
                    tied = are_tied(one, a, c) and are_tied(other, b, d)
                    self.assertEqual(made.is_tied(a * 4 + b, c * 4 + d), tied)
            pattern = some_web(seed + 60, 3, 0.5, (-1, 0, 1))
            self.assertEqual(map_number(pattern, made), map_number(pattern, one) * map_number(pattern, other))

    def test_limit(self):
        self.assertEqual(len(times(full(5), full(8))), 40)
        self.assertEqual(times(FORTY, NO_WEB), NO_WEB)
        self.assertEqual(len(times(FORTY, DOT)), 40)
        check_refused(self, TooMany(40), times, full(6), full(7))
        check_refused(self, TooMany(40), times, FORTY, Web((0, 0), ()))
        check_refused(self, InvalidWeb(""), times, None, FORTY)
        check_refused(self, InvalidWeb(""), times, FORTY, None)

    def test_pieces(self):
        for seed in range(8):
            one, other = some_web(seed, 3, 0.6, (-1, 0)), some_web(seed + 30, 4, 0.6, (0, 1))
            for pattern in (TRIANGLE, star(2), Web((0, -1), ((0, 1),))):
                side = beside(one, other)
                self.assertEqual(map_number(pattern, side), map_number(pattern, one) + map_number(pattern, other))
                twice = map_number(beside(pattern, DOT), side)
                self.assertEqual(twice, map_number(pattern, side) * map_number(DOT, side))


class Behind(unittest.TestCase):
    def test_behind(self):
        for seed in range(8):
            first, second, third = [some_web(seed + 20 * at, 3, 0.7, (-1, 0)) for at in range(3)]
            for inner in maps_of(first, second):
                for outer in maps_of(second, third):
                    made = behind(inner, outer)
                    self.assertEqual(made, tuple([outer[image] for image in inner]))
                    self.assertTrue(is_map(first, third, made))
        self.assertEqual(behind((), ()), ())
        self.assertEqual(behind((), (5,)), ())
        self.assertEqual(behind((1, 0, 1), (999999999, 0)), (0, 999999999, 0))

    def test_wrong(self):
        wrong = [value for value in STRANGE if value != ()]
        for value in wrong + [(True,), (-1,), (0, False), [0], (None,), (10 ** 9,), ("0",)]:
            check_refused(self, InvalidMap(""), behind, value, (0,))
            check_refused(self, InvalidMap(""), behind, (7,), value)
        check_refused(self, InvalidOperation(""), behind, (0, 2), (0, 0))
        check_refused(self, InvalidOperation(""), behind, (0,), ())

    def test_the_same_webs_have_equally_many_maps(self):
        for seed in range(8):
            web, pattern = some_web(seed, 5, 0.5, (-1, 0)), some_web(seed + 9, 3, 0.5, (-1, 0))
            names = some_names(seed, 5)
            self.assertEqual(map_number(pattern, web), map_number(pattern, renamed(web, names)))
            self.assertEqual(map_number(web, pattern), map_number(renamed(web, names), pattern))
            led = sorted([behind(images, names) for images in maps_of(pattern, web)])
            self.assertEqual(tuple(led), maps_of(pattern, renamed(web, names)))


if __name__ == "__main__":
    unittest.main()
