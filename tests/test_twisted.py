"""Stage 17: twisted webs."""
import itertools
import unittest

import helper
from fivealike.colour.alike import least_apart
from fivealike.errors import InvalidMap, InvalidNumber, InvalidOperation, InvalidWeb, Refused, TooMany
from fivealike.same.search import same_answer
from fivealike.twist.twisted import (even_map, is_twist_answer, lifted_number, over, section_number, twist_answer,
                                     twisted)
from fivealike.web.maps import is_map, is_same, map_number, maps_of
from fivealike.web.webs import Web, pieces
from fivealike.width.bags import is_bags, is_bramble, least_width
from helper import DOT, NO_WEB, RING, STRANGE, TWO, check_refused, full, grid, path, ring, some_web

TRI = full(3)
SPIDER = Web((0,) * 7, ((0, 1), (0, 3), (0, 5), (1, 2), (3, 4), (5, 6)))
COLOURED = Web((3, -1, 3, 0), ((0, 1), (0, 2), (1, 2), (2, 3)))


def star(many):
    """A star with so many ties."""
    return Web((0,) * (many + 1), tuple([(0, point) for point in range(1, many + 1)]))


def some_bases():
    """Bases that hang together, with few points above."""
    yield from [TRI, SPIDER, COLOURED, path(2), path(4), ring(4), ring(5), full(4), star(4), grid(2, 3)]
    for seed in range(25):
        web = some_web(seed, seed % 4 + 3, 0.6, (0, 1) if seed % 3 == 0 else (0,))
        if len(pieces(web)) == 1 and sum([2 ** (degree - 1) for degree in web.degrees]) <= 26:
            yield web


def some_lots(base):
    """Some lots of ties of a base, of even and of odd numbers."""
    yield from [(), base.ties[:1], base.ties[-1:], base.ties[:2], base.ties[::2], base.ties]


class Twisted(unittest.TestCase):
    def test_by_the_words(self):
        for base in some_bases():
            pairs = over(base)
            self.assertEqual(list(pairs), sorted(pairs))
            wanted = [(point, lot) for point in range(len(base)) for many in range(0, 9, 2)
                      for lot in itertools.combinations(base.near(point), many)]
            self.assertEqual(sorted(wanted), list(pairs))
            for ties in some_lots(base):
                web = twisted(base, ties)
                self.assertEqual(web, helper.twisted(base, ties))
                self.assertEqual(web.colours, tuple([base.colours[point] for point, _ in pairs]))

    def test_limits(self):
        for base, many in ((path(21), 40), (star(6), 38), (Web((0,) * 8, star(6).ties + ((1, 7),)), 40)):
            self.assertEqual([len(over(base)), len(twisted(base, base.ties[:1]))], [many, many])
        # A path of 20 points has 38 above, and 41 with a point that is tied to an inner one.
        branched = Web((0,) * 21, tuple(sorted(path(20).ties + ((10, 20),))))
        self.assertEqual(sum([2 ** (degree - 1) for degree in branched.degrees]), 41)
        for base in (path(22), star(7), branched, full(6), star(39), full(40)):
            check_refused(self, TooMany(40), twisted, base, ())
            check_refused(self, TooMany(40), over, base)
            check_refused(self, TooMany(40), even_map, base, base.ties[:1], ())
            check_refused(self, TooMany(40), section_number, base, ())
            check_refused(self, TooMany(40), lifted_number, base, (), NO_WEB, ())
            check_refused(self, TooMany(40), twist_answer, base, (), 1)
            check_refused(self, TooMany(40), is_twist_answer, base, (), 1, None)

    def test_untrue(self):
        even, odd = twisted(path(2), ()), twisted(path(2), ((0, 1),))
        self.assertEqual((len(even.ties), len(odd.ties)), (1, 0))


class EvenAndOdd(unittest.TestCase):
    def test_even_maps(self):
        for base in some_bases():
            for ties, others in itertools.product(list(some_lots(base)), repeat=2):
                if len(set(ties) ^ set(others)) % 2 == 0:
                    images = even_map(base, ties, others)
                    self.assertIs(is_same(twisted(base, ties), twisted(base, others), images), True)
                else:
                    check_refused(self, Refused(("odd",)), even_map, base, ties, others)

    def test_not_the_same(self):
        for base in some_bases():
            even, odd = twisted(base, ()), twisted(base, base.ties[:1])
            if len(even) <= 16:
                self.assertEqual(same_answer(even, odd)[0], "unlike")
                self.assertEqual(same_answer(even, twisted(base, base.ties[:2]))[0], "same" if len(base.ties) > 1 else "unlike")

    def test_below_the_width(self):
        """The even and the odd web are alike for ever just for k below the least width of the base."""
        for base in some_bases():
            even, odd = twisted(base, ()), twisted(base, base.ties[-1:])
            for k in (1, 2, 3):
                if len(even) ** (k + 1) <= 4096:
                    self.assertEqual(least_apart(even, odd, k) is None, k < least_width(base))
        even, odd = twisted(full(4), ()), twisted(full(4), ((0, 1),))
        self.assertEqual([least_apart(even, odd, k) for k in (1, 2)], [None, None])


class Lifted(unittest.TestCase):
    def test_sections(self):
        for base in some_bases():
            alone = tuple(range(len(base)))
            for ties in some_lots(base):
                number = 2 ** (len(base.ties) - len(base) + 1) if len(ties) % 2 == 0 else 0
                self.assertEqual(section_number(base, ties), number)
                self.assertEqual(lifted_number(base, ties, base, alone), number)
                # By trial, all points with colours of their own.
                if len(base) <= 4:
                    marked = Web(tuple(range(len(base))), base.ties)
                    self.assertEqual(map_number(marked, twisted(marked, ties)), number)

    def test_over_all_maps(self):
        """The numbers over all maps into the base add up to the number of maps into the twisted web."""
        patterns = [NO_WEB, DOT, path(2), path(3), full(3), path(4), ring(4), Web((-1, -1), ()), Web((3, -1, 1), ((0, 1), (1, 2)))]
        for base in (TRI, COLOURED, path(2), SPIDER, full(4), ring(4)):
            for ties in some_lots(base):
                web = twisted(base, ties)
                for pattern in patterns:
                    if len(web) ** len(pattern) <= 100000:
                        told = sum([lifted_number(base, ties, pattern, images) for images in maps_of(pattern, base)])
                        self.assertEqual(told, map_number(pattern, web))

    def test_never_more_in_the_odd_web(self):
        for base in (TRI, full(4), COLOURED):
            for seed in range(20):
                pattern = some_web(seed, seed % 5, 0.5, (-1,))
                for images in maps_of(pattern, base):
                    even = lifted_number(base, (), pattern, images)
                    self.assertGreater(even, 0)
                    self.assertIn(lifted_number(base, base.ties[:1], pattern, images), (0, even))

    def test_large(self):
        pattern = Web((-1,) * 40, tuple([(point, point + 1) for point in range(39)]))
        images = tuple([point % 2 for point in range(40)])
        # All bits of a point above an end of a lone tie are 0: so one map without twisted ties, none with one.
        self.assertEqual([lifted_number(path(2), ties, pattern, images) for ties in ((), ((0, 1),))], [1, 0])
        loose = Web((-1,) * 40, ())
        self.assertEqual(lifted_number(full(4), (), loose, (0,) * 40), 4 ** 40)

    def test_maps_alone(self):
        for images in STRANGE + ((0, 1), (0, 1, 1), (0, 1, 3), (0, 1, True), [0, 1, 2], (0, 1, 2, 0), "012", (0, 1, -1)):
            check_refused(self, InvalidMap(""), lifted_number, TRI, (), TRI, images)
        self.assertEqual(lifted_number(TRI, (), TRI, (2, 1, 0)), 2)
        self.assertFalse(is_map(Web((1,), ()), TRI, (0,)))
        check_refused(self, InvalidMap(""), lifted_number, TRI, (), Web((1,), ()), (0,))


class Answers(unittest.TestCase):
    def test_answers(self):
        for base in some_bases():
            if len(base) > 12:
                continue
            for ties in some_lots(base):
                for k in (1, 2, 3):
                    kind, paper = answer = twist_answer(base, ties, k)
                    self.assertIs(is_twist_answer(base, ties, k, answer), True)
                    if len(ties) % 2 == 0:
                        self.assertEqual(kind, "same")
                        self.assertTrue(is_same(twisted(base, ties), twisted(base, ()), paper))
                        self.assertFalse(is_twist_answer(base, base.ties[:1], k, answer))
                    elif k < least_width(base):
                        self.assertEqual(kind, "alike")
                        self.assertTrue(is_bramble(base, k, paper))
                    else:
                        self.assertEqual(kind, "apart")
                        self.assertTrue(is_bags(base, paper))

    def test_just_below_and_at_the_width(self):
        for base, width in ((path(3), 1), (TRI, 2), (ring(12), 2), (full(4), 3), (grid(3, 3), 3)):
            for k in (1, 2, 3):
                self.assertEqual(twist_answer(base, base.ties[:1], k)[0], "alike" if k < width else "apart")

    def test_near_values(self):
        odd, even = ((0, 1),), ((0, 1), (1, 2))
        bramble, bags = ((0,), (1,), (2,)), (((0, 1, 2),), (None,))
        self.assertTrue(is_twist_answer(TRI, odd, 1, ("alike", bramble)))
        self.assertTrue(is_twist_answer(TRI, odd, 2, ("apart", bags)))
        same = twist_answer(TRI, even, 3)
        wrong = STRANGE + (("alike", bags), ("apart", bramble), ("same", bramble), ("same", bags), ("alike", bramble[:2]), ["alike", bramble],
                           ("apart", bags, ()), ("same", tuple(range(6))), ("alike", ((False,), (True,), (2,))), ("bags", bags),
                           ("bramble", bramble), ("same", list(same[1])), ("same", same[1][::-1] + (0,)))
        for value in wrong:
            for ties in (odd, even):
                for k in (1, 2, 3):
                    self.assertIs(is_twist_answer(TRI, ties, k, value), False)
        for ties, k, value in ((even, 1, ("alike", bramble)), (even, 2, ("apart", bags)), (odd, 1, ("apart", bags)), (odd, 2, ("alike", bramble)),
                               (odd, 3, same), ((), 3, ("apart", bags))):
            self.assertIs(is_twist_answer(TRI, ties, k, value), False)
        maps = [images for images in itertools.permutations(range(6)) if is_same(twisted(TRI, even), twisted(TRI, ()), images)]
        self.assertGreater(len(maps), 1)
        for images in itertools.permutations(range(6)):
            self.assertIs(is_twist_answer(TRI, even, 1, ("same", images)), images in maps)

    def test_points_of_the_base(self):
        self.assertEqual(twist_answer(path(12), path(12).ties[3:4], 1)[0], "apart")
        for ties in ((), ((0, 1),)):
            check_refused(self, TooMany(12), twist_answer, path(13), ties, 1)
            check_refused(self, TooMany(12), is_twist_answer, path(13), ties, 1, None)
        self.assertEqual(len(even_map(path(13), path(13).ties[:2], ())), 24)


class Refusals(unittest.TestCase):
    def calls(self, base, ties):
        return [(twisted, base, ties), (even_map, base, ties, None), (even_map, base, (), ties), (section_number, base, ties),
                (lifted_number, base, ties, None, None), (twist_answer, base, ties, None), (is_twist_answer, base, ties, None, None)]

    def test_base_and_ties(self):
        for base in STRANGE:
            for call in self.calls(base, None) + [(over, base)]:
                check_refused(self, InvalidWeb(""), *call)
        for ties in STRANGE + (((1, 0),), ((0, 2), (0, 1)), ((0, 1), (0, 1)), ((0, 3),), ((1, 3),), ((False, 1),), [(0, 1)], ([0, 1],),
                               ((0, 1, 2),), (0, 1), ((0,),), (((0, 1),),)):
            if ties == ():
                continue
            for call in self.calls(COLOURED, ties):
                check_refused(self, InvalidOperation(""), *call)

    def test_sequence(self):
        apart, none = TWO, Web((0,) * 3, ())
        for base in (apart, none, NO_WEB, DOT, Web((0,) * 3, ((0, 1),)), Web((0,) * 40, ((0, 1),))):
            ties = base.ties[:1]
            # What is asked of the base itself comes behind all that is asked of the other parameters.
            for k in (0, 4, True, None, -1):
                check_refused(self, InvalidNumber(k), twist_answer, base, ties, k)
                check_refused(self, InvalidNumber(k), is_twist_answer, base, ties, k, None)
            check_refused(self, InvalidWeb(""), lifted_number, base, ties, None, None)
            check_refused(self, InvalidMap(""), lifted_number, base, ties, NO_WEB, None)
            for call in ((twisted, base, ties), (over, base), (even_map, base, ties, ()), (section_number, base, ties),
                         (lifted_number, base, ties, NO_WEB, ()), (twist_answer, base, ties, 1), (is_twist_answer, base, ties, 1, None)):
                check_refused(self, InvalidOperation(""), *call)
        # Too many points above come ahead of an odd number, and of too many points of the base.
        check_refused(self, TooMany(40), even_map, path(30), ((0, 1),), ())
        check_refused(self, TooMany(40), twist_answer, path(30), ((0, 1),), 1)
        check_refused(self, Refused(("odd",)), even_map, RING, RING.ties, RING.ties[1:])


if __name__ == "__main__":
    unittest.main()
