"""Stage 19: quotients and counts."""
import itertools
import math
import unittest

from fivealike.colour.alike import least_apart
from fivealike.errors import InvalidOperation, InvalidWeb, TooMany
from fivealike.same.counts import (is_pattern_answer, one_to_one_sum, partings, pattern_answer, quotient, quotient_width,
                                   told_sum, weight)
from fivealike.web.maps import is_same, map_number, one_to_one_number, told_number
from fivealike.web.webs import Web, beside, renamed
from fivealike.width.bags import least_width
from helper import DOT, NO_WEB, RING, STRANGE, TWO, check_refused, full, path, ring, some_names, some_web

SQUARE = Web((-1,) * 4, ((0, 1), (0, 3), (1, 2), (2, 3)))
SIDES = Web((-1,) * 3, ((0, 1), (0, 2), (1, 2)))
PAIRS = Web((-1,) * 4, ((0, 1), (2, 3)))


def all_partings(points):
    """All partings of a list of points, by the words."""
    if not points:
        return [()]
    found = []
    for many in range(len(points)):
        for others in itertools.combinations(points[1:], many):
            lot = (points[0],) + others
            left = [point for point in points if point not in lot]
            found.extend([tuple(sorted((lot,) + rest)) for rest in all_partings(left)])
    return sorted(found)


def told_fit(pattern, lots):
    for lot in lots:
        for here, there in itertools.combinations(lot, 2):
            colours = (pattern.colours[here], pattern.colours[there])
            if pattern.is_tied(here, there) or (min(colours) >= 0 and colours[0] != colours[1]):
                return False
        if len({pattern.colours[point] for point in lot} - {-1}) > 1:
            return False
    return True


def told_quotient(pattern, lots):
    colours = [max([pattern.colours[point] for point in lot]) for lot in lots]
    ties = [(a, b) for a, b in itertools.combinations(range(len(lots)), 2)
            if any(pattern.is_tied(x, y) for x in lots[a] for y in lots[b])]
    return Web(tuple(colours), tuple(ties))


def some_patterns(most):
    for seed in range(30):
        yield some_web(seed, seed % (most + 1), 0.4, (-1, 0, 1) if seed % 2 else (-1,))
    yield from [NO_WEB, DOT, SQUARE, SIDES, PAIRS, Web((-1,) * 4, ()), Web((0, 1, -1), ()), full(most, -1), path(5)]


def some_targets():
    yield from [RING, TWO, NO_WEB, DOT, Web((3, 3, 0, 0, 1), ((0, 1), (0, 2), (0, 4), (1, 3), (1, 4), (2, 3))), some_web(3, 5, 0.6, (-1, 0, 1)),
                some_web(8, 6, 0.5, (0, 1)), full(4)]


class Partings(unittest.TestCase):
    def test_told(self):
        for pattern in some_patterns(5):
            fit = [lots for lots in all_partings(list(range(len(pattern)))) if told_fit(pattern, lots)]
            self.assertEqual(partings(pattern), tuple(fit))
            for lots in fit:
                self.assertEqual(quotient(pattern, lots), told_quotient(pattern, lots))
                product = math.prod([(-1) ** (len(lot) - 1) * math.factorial(len(lot) - 1) for lot in lots])
                self.assertEqual(weight(pattern, lots), product)
            for lots in all_partings(list(range(len(pattern)))):
                if lots not in fit:
                    check_refused(self, InvalidOperation(""), quotient, pattern, lots)
                    check_refused(self, InvalidOperation(""), weight, pattern, lots)

    def test_numbers_of_partings(self):
        self.assertEqual([len(partings(Web((-1,) * many, ()))) for many in range(7)], [1, 1, 2, 5, 15, 52, 203])
        self.assertEqual(partings(NO_WEB), ((),))
        self.assertEqual(partings(full(6)), (tuple([(point,) for point in range(6)]),))
        # A point without a colour joins those of the one or of the other one, but these do not join.
        self.assertEqual(partings(Web((0, -1, 1), ())), (((0,), (1,), (2,)), ((0,), (1, 2)), ((0, 1), (2,))))

    def test_large_patterns(self):
        pattern = Web((-1,) * 40, ())
        self.assertEqual(quotient(pattern, (tuple(range(40)),)), Web((-1,), ()))
        self.assertEqual(weight(pattern, (tuple(range(40)),)), -math.factorial(39))
        self.assertEqual((quotient(NO_WEB, ()), weight(NO_WEB, ())), (NO_WEB, 1))
        even = path(40)
        self.assertEqual(quotient(even, (tuple(range(0, 40, 2)), tuple(range(1, 40, 2)))), Web((0, 0), ((0, 1),)))

    def test_maps_by_quotients(self):
        """Each map is one to one from one quotient: the numbers add up; and back, with weights."""
        for pattern in some_patterns(4):
            for web in some_targets():
                webs = [(quotient(pattern, lots), weight(pattern, lots)) for lots in partings(pattern)]
                self.assertEqual(sum([one_to_one_number(told, web) for told, _ in webs]), map_number(pattern, web))
                self.assertEqual(sum([number * map_number(told, web) for told, number in webs]), one_to_one_number(pattern, web))

    def test_untrue(self):
        # Two fit partings with one weight; a pattern of width 1 with a quotient of width 2.
        self.assertEqual(weight(SQUARE, ((0, 2), (1,), (3,))), weight(SQUARE, ((0,), (1, 3), (2,))))
        self.assertEqual((least_width(path(4)), quotient_width(Web((-1,) * 4, path(4).ties))), (1, 2))


class Sums(unittest.TestCase):
    def check_sum(self, pattern, told, counted):
        self.assertIsInstance(told, tuple)
        for at, (web, number) in enumerate(told):
            self.assertTrue(isinstance(web, Web) and type(number) is int and number != 0 and len(web) <= len(pattern))
            self.assertNotIn(web, [other for other, _ in told[:at]])
        for web in some_targets():
            self.assertEqual(sum([number * map_number(some, web) for some, number in told]), counted(pattern, web))

    def test_one_to_one(self):
        for pattern in some_patterns(6):
            self.check_sum(pattern, one_to_one_sum(pattern), one_to_one_number)

    def test_told(self):
        for pattern in some_patterns(5):
            self.check_sum(pattern, told_sum(pattern), told_number)

    def test_told_by_more_ties(self):
        """The told number is the sum over all sets of ties more, with signs, of one to one numbers."""
        for pattern in (SQUARE, PAIRS, Web((-1, 0, 1), ()), path(4)):
            loose = [pair for pair in itertools.combinations(range(len(pattern)), 2) if pair not in pattern.ties]
            lots = [more for many in range(len(loose) + 1) for more in itertools.combinations(loose, many)]
            for web in some_targets():
                webs = [(Web(pattern.colours, tuple(sorted(pattern.ties + more))), len(more)) for more in lots]
                self.assertEqual(sum([told_number(told, web) for told, _ in webs]), one_to_one_number(pattern, web))
                self.assertEqual(sum([(-1) ** many * one_to_one_number(told, web) for told, many in webs]), told_number(pattern, web))

    def test_points(self):
        for pattern in (path(6), Web((-1,) * 6, ()), full(6)):
            self.assertEqual(sum([number * map_number(some, RING) for some, number in one_to_one_sum(pattern)]), one_to_one_number(pattern, RING))
            check_refused(self, TooMany(5), told_sum, pattern)
        for function in (partings, one_to_one_sum, quotient_width):
            check_refused(self, TooMany(6), function, path(7))
        check_refused(self, TooMany(5), told_sum, path(7))
        self.assertEqual((one_to_one_sum(NO_WEB), told_sum(NO_WEB)), (((NO_WEB, 1),),) * 2)


class Widths(unittest.TestCase):
    def test_told(self):
        for pattern in some_patterns(6):
            wanted = max([least_width(told_quotient(pattern, lots)) for lots in partings(pattern)] + [0])
            self.assertEqual(quotient_width(pattern), wanted)
        self.assertEqual([quotient_width(web) for web in (NO_WEB, DOT, PAIRS, SIDES, SQUARE, full(6))], [0, 0, 1, 2, 2, 5])

    def test_what_k_tells(self):
        """Alike for ever: equally many one to one maps of each pattern whose quotients have width at most k."""
        for one, other, k in ((RING, TWO, 1), (path(4), renamed(path(4), (2, 0, 3, 1)), 2),
                              (Web((0,) * 8, ring(8).ties), beside(ring(4), ring(4)), 1), (ring(5), renamed(ring(5), (1, 3, 0, 2, 4)), 3)):
            self.assertIsNone(least_apart(one, other, k))
            for pattern in some_patterns(4):
                if quotient_width(pattern) <= k:
                    self.assertEqual(one_to_one_number(pattern, one), one_to_one_number(pattern, other))
        self.assertNotEqual(one_to_one_number(SIDES, RING), one_to_one_number(SIDES, TWO))


class Answers(unittest.TestCase):
    def pairs(self):
        for seed in range(80):
            colours = ((0,), (-1,), (-1, 0), (-1, 0, 1), (0, 1))[seed % 5]
            many = seed % 7
            one = some_web(seed, many, 0.5, colours)
            yield one, renamed(one, some_names(seed, many))
            yield one, some_web(seed + 200, many if seed % 3 else (many + 1) % 7, 0.5, colours)
            # As many ties and points of each colour.
            pairs = list(itertools.combinations(range(many), 2))
            yield one, Web(one.colours[::-1], tuple(sorted([pairs[at] for at in some_names(seed + 5, len(pairs))[:len(one.ties)]])))
        yield from [(RING, TWO), (TWO, RING), (NO_WEB, DOT), (Web((-1,), ()), DOT), (Web((-1, -1, 0), ((0, 2),)), Web((-1, -1, 0), ((0, 1),))),
                    (Web((-1, 0, -1), ((0, 1),)), Web((0, -1, 0), ((0, 1),)))]

    def test_answers(self):
        kinds = set()
        for one, other in self.pairs():
            kind, paper = answer = pattern_answer(one, other)
            kinds.add(kind)
            self.assertIs(is_pattern_answer(one, other, answer), True)
            same = len(one) == len(other) and any(is_same(one, other, images) for images in itertools.permutations(range(len(one))))
            self.assertEqual(kind, "same" if same else "pattern")
            if same:
                self.assertTrue(is_same(one, other, paper))
            else:
                self.assertNotEqual(map_number(paper, one), map_number(paper, other))
                self.assertLessEqual(len(paper), max(len(one), len(other)))
        self.assertEqual(kinds, {"same", "pattern"})

    def test_other_makers(self):
        self.assertTrue(is_pattern_answer(RING, TWO, ("pattern", full(3))))
        self.assertTrue(is_pattern_answer(RING, TWO, ("pattern", ring(5))))
        self.assertTrue(is_pattern_answer(RING, TWO, ("pattern", beside(full(3), full(3)))))
        self.assertFalse(is_pattern_answer(RING, TWO, ("pattern", beside(full(3), ring(4)))))
        for images in itertools.permutations(range(4)):
            self.assertIs(is_pattern_answer(path(4), path(4), ("same", images)), images in ((0, 1, 2, 3), (3, 2, 1, 0)))

    def test_wrong_values(self):
        for value in STRANGE + (("pattern", SQUARE), ("pattern", None), ("pattern", (SIDES.colours, SIDES.ties)), ["pattern", SIDES], ("pattern", SIDES, 0),
                                ("pattern", DOT), ("same", SIDES), ("same", tuple(range(6))), ("pattern", path(40)), ("pattern", Web((5, 5), ((0, 1),))),
                                ("Pattern", SIDES), (SIDES, "pattern"), ("pattern",)):
            self.assertIs(is_pattern_answer(RING, TWO, value), False)
        self.assertIs(is_pattern_answer(RING, TWO, ("pattern", SIDES)), True)
        self.assertIs(is_pattern_answer(DOT, DOT, ("same", (False,))), False)
        self.assertIs(is_pattern_answer(DOT, DOT, ("same", (0,))), True)
        # A pattern with more points than both webs.
        self.assertIs(is_pattern_answer(DOT, NO_WEB, ("pattern", Web((-1, -1), ()))), False)

    def test_all_counts_are_needed(self):
        # The webs have equally many maps of the first one, and are not the same.
        one, other = Web((0,) * 3, ((0, 1),)), Web((0,) * 3, ())
        self.assertEqual(map_number(Web((0,), ()), one), map_number(Web((0,), ()), other))
        self.assertEqual(pattern_answer(one, other)[0], "pattern")


class Refusals(unittest.TestCase):
    def test_webs(self):
        for web in STRANGE:
            for function in (partings, one_to_one_sum, told_sum, quotient_width):
                check_refused(self, InvalidWeb(""), function, web)
            for function in (quotient, weight):
                check_refused(self, InvalidWeb(""), function, web, None)
            for function, more in ((pattern_answer, ()), (is_pattern_answer, (None,))):
                check_refused(self, InvalidWeb(""), function, web, path(7), *more)
                check_refused(self, InvalidWeb(""), function, path(7), web, *more)

    def test_lots(self):
        for lots in STRANGE + (((0, 1), (2,), (3,)), ((0,), (1,), (2,)), ((0,), (1,), (2,), (3,), (4,)), ((1,), (0,), (2,), (3,)), ((2, 0), (1,), (3,)),
                               ((0, 2), (0, 2), (1,), (3,)), ((), (0, 2), (1,), (3,)), ((False, 2), (1,), (3,)), ((0, 2), (True,), (3,)), ([0, 2], (1,), (3,)),
                               [(0, 2), (1, 3)], ((0, 2), (1, 3), ()), (0, 2), ((0, 2), 1, 3), ((0, 2), (1, 3, 3)), ((0, 1, 2, 3),)):
            check_refused(self, InvalidOperation(""), quotient, SQUARE, lots)
            check_refused(self, InvalidOperation(""), weight, SQUARE, lots)

    def test_six_points(self):
        for one, other in ((path(7), DOT), (DOT, path(7))):
            check_refused(self, TooMany(6), pattern_answer, one, other)
            check_refused(self, TooMany(6), is_pattern_answer, one, other, None)
        self.assertEqual(pattern_answer(path(6), path(6))[0], "same")
        self.assertEqual(pattern_answer(path(6), Web((0,) * 6, ()))[0], "pattern")


if __name__ == "__main__":
    unittest.main()
