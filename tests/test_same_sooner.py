"""Answers of the stage 18 that once came late: what they are, judges near them, and limits beside them."""
import itertools
import unittest

from fivealike.errors import TooMany
from fivealike.same.search import (are_symmetries, form_of, is_led_answer, is_same_answer, is_tries, led_answer, moved_points, same_answer,
                                   symmetries_of, symmetry_number)
from fivealike.use.bench import Bench
from fivealike.web.maps import is_same
from fivealike.web.webs import Web, beside, opposite, recoloured, renamed
from helper import DOT, RING, TWO, check_refused, full, path, ring, some_names, some_web, twisted
from test_same import ROOK, SHRIKHANDE, all_maps, told_like, told_look, told_tries

K4 = full(4)
EVEN, ODD = twisted(K4, ()), twisted(K4, ((0, 1),))
# Four points stand above each point of the base.
COLOURS = (0,) * 4 + (1,) * 4 + (2,) * 4 + (3,) * 4
EVEN_TOLD, ODD_TOLD = recoloured(EVEN, COLOURS), recoloured(ODD, COLOURS)
TIED = Web((0, 0, 0), ((0, 1), (0, 2), (1, 2)))


def many_beside(*webs):
    """All of these webs beside one another."""
    found = Web((), ())
    for web in webs:
        found = beside(found, web)
    return found


def some_names_of(web, seed):
    """The web with other names."""
    return renamed(web, some_names(seed, len(web)))


def alike_pairs():
    """Pairs of webs of at most eight points with equal numbers of ties of the points, not the same."""
    star, kite = Web((0,) * 4, ((0, 1), (0, 2), (0, 3))), Web((0,) * 4, ((0, 1), (0, 2), (1, 2), (2, 3)))
    cube = Web((0,) * 8, tuple([(a, b) for a, b in itertools.combinations(range(8), 2) if bin(a ^ b).count("1") == 1]))
    rows = ((RING, TWO), (ring(7), many_beside(ring(3), ring(4))), (ring(8), many_beside(ring(4), ring(4))), (many_beside(ring(3), ring(5)), ring(8)),
            (many_beside(path(3), path(5)), many_beside(path(4), path(4))), (cube, many_beside(K4, K4)), (cube, opposite(cube)), (path(8, 2), path(8, 3)),
            (many_beside(star, TIED), many_beside(kite, path(3))), (many_beside(path(2), path(6)), many_beside(path(4), path(4))),
            (many_beside(TIED, path(3), DOT), many_beside(ring(4), path(2), DOT)), (many_beside(DOT, ring(4)), many_beside(TIED, path(2))))
    for seed, (one, other) in enumerate(rows):
        yield some_names_of(one, seed), some_names_of(other, seed + 50)
        yield some_names_of(opposite(other), seed), some_names_of(opposite(one), seed + 50)


class Twisted(unittest.TestCase):
    def test_told(self):
        self.assertEqual([len(web) for web in (EVEN, ODD)], [16, 16])
        for one, other in ((EVEN, ODD), (ODD, EVEN), (EVEN_TOLD, ODD_TOLD), (ODD_TOLD, EVEN_TOLD), (EVEN, ODD_TOLD), (EVEN_TOLD, ODD),
                           (some_names_of(EVEN, 3), some_names_of(ODD, 4)), (some_names_of(EVEN_TOLD, 3), some_names_of(ODD_TOLD, 4))):
            kind, tries = answer = same_answer(one, other)
            self.assertEqual(kind, "unlike")
            self.assertIn(((), ()), tries)
            self.assertTrue(told_tries(one, other, tries))
            self.assertEqual(list(tries), sorted(tries))
            self.assertIs(is_same_answer(one, other, answer), True)
            self.assertIs(is_tries(one, other, tries), True)
            self.assertEqual(same_answer(one, other), answer)
        self.assertEqual(same_answer(EVEN, ODD_TOLD)[1], {((), ()): ("many", (0, (), ()))})

    def test_near_tries(self):
        for one, other in ((EVEN, ODD), (EVEN_TOLD, ODD_TOLD)):
            tries = same_answer(one, other)[1]
            for pair in list(tries)[::17]:
                fewer = {rows: told for rows, told in tries.items() if rows != pair}
                self.assertIs(is_tries(one, other, fewer), told_tries(one, other, fewer))
                self.assertIs(is_same_answer(one, other, ("unlike", fewer)), ((), ()) in fewer and told_tries(one, other, fewer))
                other_point = next(point for point in range(16) if point not in pair[0])
                for told in (("point", other_point), ("many", told_look(one, pair[0], other_point)), ("point", 16), ("many", tries[pair][1])):
                    bent = {**tries, pair: told}
                    right = told_tries(one, other, bent) if told[0] == "many" and isinstance(told[1], tuple) or told[1] == other_point else False
                    self.assertIs(is_tries(one, other, bent), right)
            self.assertIs(is_same_answer(one, other, ("same", tuple(range(16)))), False)
            self.assertIs(is_same_answer(one, one, ("unlike", tries)), False)

    def test_same(self):
        for seed, web in enumerate((EVEN, ODD, EVEN_TOLD, ODD_TOLD, twisted(K4, ((0, 1), (2, 3))))):
            other = some_names_of(web, seed)
            kind, images = answer = same_answer(web, other)
            self.assertEqual(kind, "same")
            self.assertTrue(is_same(web, other, images) and is_same_answer(web, other, answer))
            exchanged = (images[1], images[0]) + images[2:]
            self.assertIs(is_same_answer(web, other, ("same", exchanged)), is_same(web, other, exchanged))
        # An even number of twisted ties, in other places.
        self.assertEqual(same_answer(EVEN, twisted(K4, ((0, 1), (1, 3))))[0], "same")
        self.assertEqual(same_answer(ODD, twisted(K4, ((0, 2), (1, 2), (1, 3))))[0], "same")

    def test_forms(self):
        forms = []
        for web in (EVEN, ODD, EVEN_TOLD, ODD_TOLD):
            names = form_of(web)
            self.assertEqual(sorted(names), list(range(16)))
            forms.append(renamed(web, names))
            self.assertEqual(same_answer(web, forms[-1])[0], "same")
            for seed in range(5):
                other = some_names_of(web, seed)
                self.assertEqual(renamed(other, form_of(other)), forms[-1])
        for one, other in itertools.combinations(forms, 2):
            self.assertNotEqual(one, other)

    def test_symmetries(self):
        # The even web is that of the rook's moves, the odd one that of Shrikhande.
        self.assertEqual([same_answer(EVEN, ROOK)[0], same_answer(ODD, SHRIKHANDE)[0]], ["same", "same"])
        # With the colours told it is twisted again along rings of the base: 2 ** (6 - 4 + 1) ways.
        self.assertEqual([symmetry_number(web) for web in (EVEN, ODD, EVEN_TOLD, ODD_TOLD)], [1152, 192, 8, 8])
        self.assertEqual(moved_points(EVEN), (0,) * 16)
        self.assertEqual(moved_points(ODD_TOLD), tuple([point // 4 * 4 for point in range(16)]))
        for web in (EVEN, ODD_TOLD):
            self.assertIs(are_symmetries(web, symmetries_of(web)), True)

    def test_led(self):
        kinds = []
        for row, goal in (((0,), (0,)), ((0,), (5,)), ((0, 4), (0, 4)), ((0, 1), (0, 2)), ((3, 9), (2, 8))):
            for one, other in ((EVEN, ODD), (EVEN, EVEN), (ODD, ODD)):
                if told_like(one, row, other, goal):
                    kind, paper = answer = led_answer(one, row, other, goal)
                    kinds.append((one == other, kind))
                    self.assertIs(is_led_answer(one, row, other, goal, answer), True)
                    if kind == "unlike":
                        self.assertTrue((row, goal) in paper and told_tries(one, other, paper))
                    else:
                        self.assertEqual(tuple([paper[point] for point in row]), goal)
        self.assertEqual({kind for is_one, kind in kinds if not is_one}, {"unlike"})
        self.assertIn((True, "same"), kinds)


class Small(unittest.TestCase):
    def test_alike(self):
        for one, other in alike_pairs():
            kind, tries = answer = same_answer(one, other)
            self.assertEqual(kind, "unlike")
            self.assertIn(((), ()), tries)
            self.assertTrue(told_tries(one, other, tries) and is_same_answer(one, other, answer))
            self.assertNotEqual(renamed(one, form_of(one)), renamed(other, form_of(other)))
            for web in (one, other):
                goal = some_names_of(web, len(tries))
                kind, images = answer = same_answer(web, goal)
                self.assertTrue(kind == "same" and is_same(web, goal, images) and is_same_answer(web, goal, answer))
            for pair in list(tries)[::7]:
                fewer = {rows: told for rows, told in tries.items() if rows != pair}
                self.assertIs(is_tries(one, other, fewer), fewer != {} and told_tries(one, other, fewer))

    def test_drawn(self):
        seen = {}
        for seed in range(150):
            many, colours = seed % 6, ((0,), (0, 0, 1), (-1, 0, 9))[seed % 3]
            one, other = some_web(seed, many, 0.5, colours), some_web(seed + 1000, many, 0.5, colours)
            other = recoloured(other, tuple(sorted(one.colours))) if seed % 4 else other
            kind, paper = answer = same_answer(one, other)
            maps = all_maps(one, other)
            seen[kind] = seen.get(kind, 0) + 1
            self.assertEqual(kind, "same" if maps else "unlike")
            self.assertTrue(paper in maps if maps else told_tries(one, other, paper))
            self.assertIs(is_same_answer(one, other, answer), True)
            self.assertIs(renamed(one, form_of(one)) == renamed(other, form_of(other)), maps != [])
        self.assertTrue(seen["same"] > 9 and seen["unlike"] > 9)

    def test_where_the_first_choice_is_wrong(self):
        """All points have three ties each, and not all are alike: some first choices lead to no map."""
        prism, crossed = Web((0,) * 6, ((0, 1), (0, 2), (0, 3), (1, 2), (1, 4), (2, 5), (3, 4), (3, 5), (4, 5))), opposite(TWO)
        for seed in range(12):
            for web in (many_beside(K4, prism, crossed), many_beside(crossed, K4, K4), many_beside(prism, prism, K4)):
                one, other = some_names_of(web, seed), some_names_of(web, seed + 20)
                kind, images = same_answer(one, other)
                self.assertTrue(kind == "same" and is_same(one, other, images))
                self.assertEqual(renamed(one, form_of(one)), renamed(other, form_of(other)))


class Limits(unittest.TestCase):
    def test_sixteen(self):
        webs = [EVEN, ROOK, SHRIKHANDE, path(16), full(16), Web((0,) * 16, ()), some_web(9, 16), many_beside(ring(4), ring(4), ring(4), ring(4))]
        for seed, web in enumerate(webs):
            other = some_names_of(web, seed)
            kind, images = same_answer(web, other)
            self.assertTrue(kind == "same" and is_same(web, other, images))
            self.assertEqual(renamed(web, form_of(web)), renamed(other, form_of(other)))
        for web in (path(17), beside(EVEN, DOT), Web((0,) * 40, ())):
            check_refused(self, TooMany(16), form_of, web)
            for one, other in ((web, EVEN), (EVEN, web), (web, web)):
                check_refused(self, TooMany(16), same_answer, one, other)
                check_refused(self, TooMany(16), is_same_answer, one, other, ("same", ()))
                check_refused(self, TooMany(16), led_answer, one, (), other, ())

    def test_many_tries(self):
        """Tries are told if there are at most 4,000 of them, or there are too many; a map is told at all events."""
        twos, fours = many_beside(*[full(2)] * 8), many_beside(*[ring(4)] * 4)
        for one, other in ((Web((0,) * 8, ()), beside(path(2), Web((0,) * 6, ()))), (twos, beside(many_beside(*[full(2)] * 6), beside(path(3), DOT))),
                           (fours, many_beside(ring(8), ring(4), ring(4))), (many_beside(TIED, TIED, TIED, TIED, K4), many_beside(TIED, RING, TIED, K4))):
            try:
                kind, tries = answer = same_answer(one, other)
            except TooMany as error:
                self.assertEqual(error.most, 4000)
            else:
                self.assertTrue(kind == "unlike" and len(tries) <= 4000 and told_tries(one, other, tries))
                self.assertIs(is_same_answer(one, other, answer), True)
            kind, tries = same_answer(other, one)
            self.assertTrue(kind == "unlike" and told_tries(other, one, tries))
            for web in (one, other):
                self.assertEqual(same_answer(web, some_names_of(web, 5))[0], "same")

    def test_bench(self):
        bench = Bench()
        for name, web in (("even", EVEN), ("odd", ODD), ("moved", some_names_of(ODD, 8)), ("long", path(17))):
            bench.tell(f"web {name} " + ",".join([str(colour) for colour in web.colours]))
            for here, there in web.ties:
                bench.tell(f"tie {name} {here} {there}")
        self.assertEqual([bench.tell("same even odd"), bench.tell("same odd moved")], ["not the same", "same"])
        check_refused(self, TooMany(16), bench.tell, "same odd long")


if __name__ == "__main__":
    unittest.main()
