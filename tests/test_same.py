"""Stage 18: the same up to names."""
import itertools
import math
import unittest

from fivealike.colour.alike import least_apart
from fivealike.errors import InvalidNumber, InvalidOperation, InvalidRow, InvalidWeb, TooMany
from fivealike.same.search import (are_like_rows, are_symmetries, form_of, is_led_answer, is_same_answer, is_tries, led_answer,
                                   look_of, moved_points, renamed_number, same_answer, symmetries_of, symmetry_number)
from fivealike.twist.twisted import twisted
from fivealike.web.maps import is_same
from fivealike.web.webs import Web, beside, opposite, renamed
from helper import DOT, FORTY, NO_WEB, RING, STRANGE, TWO, check_refused, full, grid, path, ring, some_names, some_web

LOOSE = Web((0,) * 16, ())
ROOK = Web((0,) * 16, tuple([(a, b) for a, b in itertools.combinations(range(16), 2) if a // 4 == b // 4 or a % 4 == b % 4]))
TIES = ((0, 1), (0, 3), (1, 0), (3, 0), (1, 1), (3, 3))
SHRIKHANDE = Web((0,) * 16, tuple([(a, b) for a, b in itertools.combinations(range(16), 2)
                                   if ((b // 4 - a // 4) % 4, (b % 4 - a % 4) % 4) in TIES]))
CUBE = Web((0,) * 8, tuple([(a, b) for a, b in itertools.combinations(range(8), 2) if bin(a ^ b).count("1") == 1]))
WRONG_ROWS = STRANGE[:6] + (0, [0], (0, 0), (True,), (-1,), (6,), ("0",), ((0,),), (0, 1, 0), (10 ** 99,), {0: 0}, (None,), (1, True))


def told_look(web, row, point):
    return (web.colours[point], tuple([i for i, at in enumerate(row) if at == point]),
            tuple([i for i, at in enumerate(row) if web.is_tied(at, point)]))


def told_like(one, row, other, goal):
    return (len(row) == len(goal) and all(one.colours[a] == other.colours[b] for a, b in zip(row, goal))
            and all(one.is_tied(row[i], row[j]) == other.is_tied(goal[i], goal[j]) for i, j in itertools.combinations(range(len(row)), 2)))


def told_tries(one, other, tries):
    """Whether a dict from pairs of like rows leads on, by the words."""
    for (row, goal), (word, told) in tries.items():
        assert told_like(one, row, other, goal) and len(set(row)) == len(row) and len(set(goal)) == len(goal)
        if word == "many":
            counts = [[told_look(web, own, point) for point in range(len(web))].count(told) for web, own in ((one, row), (other, goal))]
            if counts[0] == counts[1]:
                return False
        else:
            if told in row:
                return False
            look = told_look(one, row, told)
            for w in range(len(other)):
                if w not in goal and told_look(other, goal, w) == look and (row + (told,), goal + (w,)) not in tries:
                    return False
    return True


def all_maps(one, other):
    """All maps that show that both are the same, by trial."""
    if len(one) != len(other):
        return []
    return [images for images in itertools.permutations(range(len(one))) if is_same(one, other, images)]


def some_pairs():
    """Pairs of small webs, some of them the same."""
    for seed in range(40):
        one = some_web(seed, seed % 6, 0.5, (0, 1) if seed % 4 == 0 else (0,))
        yield one, renamed(one, some_names(seed, len(one)))
        yield one, some_web(seed + 90, seed % 6, 0.5)
    yield from [(RING, TWO), (TWO, RING), (path(4), Web((0,) * 4, ((0, 1), (0, 2), (0, 3)))), (DOT, Web((1,), ())), (NO_WEB, DOT), (DOT, NO_WEB),
                (NO_WEB, NO_WEB), (ring(5), path(5)), (Web((0, 1, 0), ((0, 1),)), Web((0, 1, 0), ((0, 2),)))]


def large_pairs():
    """Pairs of webs of up to 16 points that are not the same, though much of them is."""
    yield from [(ROOK, SHRIKHANDE), (SHRIKHANDE, ROOK), (opposite(ROOK), opposite(SHRIKHANDE)), (ring(16), beside(ring(8), ring(8))),
                (beside(path(8), path(8)), beside(path(7), path(9))), (beside(CUBE, CUBE), beside(CUBE, beside(full(4), full(4)))),
                (grid(4, 4), grid(2, 8)), (some_web(1, 16), some_web(2, 16)), (beside(ring(8), beside(ring(4), ring(4))), beside(ring(10), ring(6))),
                (twisted(ring(4), ()), twisted(ring(4), ((0, 1),))), (twisted(full(4), ()), twisted(full(4), ((0, 1),)))]


class Looks(unittest.TestCase):
    def test_told(self):
        for seed in range(12):
            web = some_web(seed, 6, 0.5, (-1, 0))
            for row in [(), (0,), (3, 1), (5, 0, 2), (1, 2, 3, 4, 5), (0, 5, 1, 4, 2, 3)]:
                for point in range(6):
                    self.assertEqual(look_of(web, row, point), told_look(web, row, point))
        self.assertEqual(look_of(path(16), tuple(range(16)), 15), (0, (15,), (14,)))

    def test_like_rows(self):
        for seed in range(10):
            one, other = some_web(seed, 5, 0.5, (0, 1)), some_web(seed + 30, 5, 0.5, (0, 1))
            rows = [(), (0,), (1,), (4, 2), (2, 4), (0, 1, 2), (3, 1, 0), (0, 1, 2, 3, 4)]
            for row, goal in itertools.product(rows, repeat=2):
                self.assertIs(are_like_rows(one, row, other, goal), told_like(one, row, other, goal))

    def test_looks_lead_on(self):
        """Like rows with v, w behind are like exactly if their looks are equal."""
        one = some_web(3, 6, 0.5, (0, 1))
        other = renamed(one, some_names(4, 6))
        for row, goal in itertools.product([(0, 3), (2, 5), (1,), (4, 2)], repeat=2):
            if are_like_rows(one, row, other, goal):
                for v, w in itertools.product(range(6), repeat=2):
                    if v not in row and w not in goal:
                        self.assertIs(are_like_rows(one, row + (v,), other, goal + (w,)), look_of(one, row, v) == look_of(other, goal, w))


class Same(unittest.TestCase):
    def test_small(self):
        for one, other in some_pairs():
            kind, paper = answer = same_answer(one, other)
            maps = all_maps(one, other)
            self.assertEqual(kind, "same" if maps != [] else "unlike")
            self.assertIs(is_same_answer(one, other, answer), True)
            if kind == "same":
                self.assertIn(paper, maps)
            else:
                self.assertTrue(told_tries(one, other, paper))
                self.assertIn(((), ()), paper)
                self.assertIs(is_tries(one, other, paper), True)
                self.assertEqual(list(paper), sorted(paper))
                # Tries are not tries of the webs exchanged, but for what tells numbers.
                turned = {pair[::-1]: told for pair, told in paper.items()}
                self.assertIs(is_tries(other, one, turned), told_tries(other, one, turned))

    def test_large(self):
        for one, other in large_pairs():
            kind, tries = answer = same_answer(one, other)
            self.assertEqual(kind, "unlike")
            self.assertLessEqual(len(tries), 4000)
            self.assertTrue(is_same_answer(one, other, answer) and told_tries(one, other, tries))
            for web in (one, other):
                goal = renamed(web, some_names(len(tries), len(web)))
                kind, images = answer = same_answer(web, goal)
                self.assertEqual(kind, "same")
                self.assertTrue(is_same_answer(web, goal, answer) and is_same(web, goal, images))

    def test_many_tries(self):
        """Webs in which all of the one's points are much alike: what is told is right, or there are too many."""
        squares = beside(beside(ring(4), ring(4)), beside(ring(4), ring(4)))
        lone = beside(beside(full(2), full(2)), beside(full(2), full(2)))
        for one, other in ((squares, beside(ring(8), beside(ring(4), ring(4)))),
                           (beside(lone, lone), beside(beside(lone, beside(full(2), full(2))), beside(path(3), DOT)))):
            try:
                kind, tries = same_answer(one, other)
            except TooMany as error:
                self.assertEqual(error.most, 4000)
            else:
                self.assertTrue(kind == "unlike" and told_tries(one, other, tries))
            kind, tries = same_answer(other, one)
            self.assertEqual(kind, "unlike")
            self.assertTrue(told_tries(other, one, tries))

    def test_led(self):
        for one, other in list(some_pairs())[:40] + [(RING, RING), (RING, TWO), (TWO, TWO), (full(4), full(4))]:
            maps = all_maps(one, other)
            for many in (1, 2):
                for row in list(itertools.permutations(range(len(one)), many))[:6]:
                    for goal in list(itertools.permutations(range(len(other)), many))[::3]:
                        if not told_like(one, row, other, goal):
                            check_refused(self, InvalidOperation(""), led_answer, one, row, other, goal)
                            check_refused(self, InvalidOperation(""), is_led_answer, one, row, other, goal, None)
                            continue
                        kind, paper = answer = led_answer(one, row, other, goal)
                        fit = [images for images in maps if tuple([images[at] for at in row]) == goal]
                        self.assertEqual(kind, "same" if fit != [] else "unlike")
                        self.assertIs(is_led_answer(one, row, other, goal, answer), True)
                        if kind == "same":
                            self.assertIn(paper, fit)
                        else:
                            self.assertIn((row, goal), paper)
                            self.assertTrue(told_tries(one, other, paper))
                        for images in maps[:3]:
                            self.assertIs(is_led_answer(one, row, other, goal, ("same", images)), images in fit)

    def test_near_tries(self):
        for one, other in ((RING, TWO), (TWO, RING), (ring(5), path(5)), (path(4), beside(path(2), path(2)))):
            tries = same_answer(one, other)[1]
            for pair in tries:
                fewer = {rows: told for rows, told in tries.items() if rows != pair}
                self.assertIs(is_tries(one, other, fewer), len(fewer) > 0 and told_tries(one, other, fewer))
                self.assertIs(is_same_answer(one, other, ("unlike", fewer)), ((), ()) in fewer and told_tries(one, other, fewer))
                for told in (("many", (0, (), ())), ("many", (0, (), tuple(range(len(pair[0]))))), ("point", 0), ("point", 3), ("many", (0, (0,), ()))):
                    bent = {**tries, pair: told}
                    self.assertIs(is_tries(one, other, bent), told_tries(one, other, bent))
            # One more that is right is let; one of rows that are not like is not.
            self.assertIs(is_tries(one, other, {**tries, ((0,), (0,)): ("many", (9, (), ()))}), False)
            self.assertIs(is_tries(one, other, {**tries, ((0, 1), (0,)): ("point", 2)}), False)
            self.assertIs(is_same_answer(one, other, ("unlike", tries)), True)

    def test_any_value(self):
        one, other = path(2), Web((0, 0), ())
        right = {((), ()): ("point", 0), ((0,), (0,)): ("many", (0, (), (0,))), ((0,), (1,)): ("many", (0, (), (0,)))}
        self.assertTrue(is_tries(one, other, right) and is_same_answer(one, other, ("unlike", right)))
        self.assertTrue(is_tries(one, other, {((0,), (0,)): ("many", (0, (), ()))}))
        self.assertFalse(is_same_answer(one, other, ("unlike", {((0,), (0,)): ("many", (0, (), ()))})))
        pair = ((0,), (0,))
        values = [{**right, pair: told} for told in STRANGE + (
            ("many", (False, (), (0,))), ("many", (0, (), (False,))), ("many", (0, (), [0])), ("many", [0, (), (0,)]), ["many", (0, (), (0,))],
            ("many", (0, (), (0,)), 0), ("many", (0, (), (0, 0))), ("many", (0, (), (1,))), ("many", (0, ())), ("point", True), ("point", 1.0),
            ("point", 0), ("point", 2), ("points", 1), ("many", (1, (), (0,))), ("many", None), ("many", (0, None, (0,))))]
        values += [{**right, key: ("point", 1)} for key in (None, (), 0, "a", ((0,),), ((True,), (0,)), (0, 0), ((0, 0), (0, 0)),
                                                            ((2,), (0,)), ((0,), (-1,)), ((0,), (0,), ()), ((), (0,)))]
        values += [{**right, ((), ()): ("point", False)}, list(right), tuple(right.items())]
        values.append({(row, (True,) if goal == (1,) else goal): told for (row, goal), told in right.items()})
        for value in values + list(STRANGE):
            self.assertIs(is_tries(one, other, value), False)
            self.assertIs(is_same_answer(one, other, ("unlike", value)), False)
            self.assertIs(is_led_answer(one, (0,), other, (1,), ("unlike", value)), False)
            self.assertIs(is_same_answer(one, one, ("same", value)), False)
            self.assertIs(is_same_answer(one, other, value), False)
        for value in (("same", (0, 1)), ["same", (0, 1)], ("same", (1, 0), ()), ("same", [1, 0]), ("Same", (1, 0)), ("same", (True, 0))):
            self.assertIs(is_same_answer(one, one, value), value == ("same", (0, 1)))
            self.assertIs(is_same_answer(one, other, value), False)
        self.assertIs(is_tries(one, other, {}), False)

    def test_untrue(self):
        # Alike for ever for k = 2, with 16 points, and not the same.
        self.assertIsNone(least_apart(ROOK, SHRIKHANDE, 2))
        self.assertEqual(same_answer(ROOK, SHRIKHANDE)[0], "unlike")


def some_symmetric():
    """Webs of few points, and all their symmetries."""
    webs = [one for one, _ in some_pairs()][::2] + [RING, TWO, full(5), Web((0,) * 5, ()), path(6), ring(5), NO_WEB, DOT, Web((0, 1, 0), ((0, 1),)),
                                                   beside(path(2), beside(path(2), path(2)))]
    for web in webs:
        yield web, all_maps(web, web)


class Symmetries(unittest.TestCase):
    def test_numbers(self):
        for web, maps in some_symmetric():
            self.assertEqual(symmetry_number(web), len(maps))
            self.assertEqual(symmetry_number(opposite(web)), len(maps))
            self.assertEqual(moved_points(web), tuple([min([images[point] for images in maps]) for point in range(len(web))]))
            self.assertEqual(renamed_number(web), math.factorial(len(web)) // len(maps))
            if len(web) <= 4:
                names = itertools.permutations(range(len(web)))
                self.assertEqual(renamed_number(web), len({(made.colours, made.ties) for made in [renamed(web, own) for own in names]}))

    def test_known_numbers(self):
        for web, number in ((ROOK, 1152), (SHRIKHANDE, 192), (LOOSE, math.factorial(16)), (full(16), math.factorial(16)), (ring(16), 32),
                            (path(16), 2), (beside(CUBE, CUBE), 2 * 48 ** 2), (grid(4, 4), 8), (Web(tuple(range(-1, 10)) * 1, ()), 1),
                            (beside(ring(4), beside(ring(4), beside(ring(4), ring(4)))), 24 * 8 ** 4)):
            self.assertEqual(symmetry_number(web), number)
            self.assertEqual(renamed_number(web), math.factorial(len(web)) // number)
        for web in (ROOK, SHRIKHANDE, LOOSE, full(16), ring(16)):
            self.assertEqual(moved_points(web), (0,) * 16)

    def test_ladders(self):
        for web in [web for web, _ in some_symmetric()] + [ROOK, SHRIKHANDE, LOOSE, ring(16), path(16), some_web(5, 16), beside(ring(7), path(9)),
                                                           beside(CUBE, beside(full(4), full(4))), beside(ring(3), beside(ring(4), ring(5)))]:
            ladder = symmetries_of(web)
            self.assertIs(are_symmetries(web, ladder), True)
            number = 1
            for point, told in enumerate(ladder):
                maps = 0
                for image, paper in zip(range(point, len(web)), told):
                    row, goal = tuple(range(point + 1)), tuple(range(point)) + (image,)
                    if isinstance(paper, tuple):
                        maps += 1
                        self.assertTrue(is_same(web, web, paper) and paper[:point + 1] == goal)
                    elif paper is None:
                        self.assertFalse(told_like(web, row, web, goal))
                    else:
                        self.assertTrue((row, goal) in paper and told_tries(web, web, paper))
                number *= maps
            self.assertEqual(number, symmetry_number(web))

    def test_products(self):
        """Each symmetry is in just one way a product of one of each point."""
        for web in (RING, TWO, full(4), path(4)):
            ladder = [[paper for paper in told if isinstance(paper, tuple)] for told in symmetries_of(web)]
            made = []
            for chosen in itertools.product(*ladder):
                images = tuple(range(len(web)))
                for symmetry in reversed(chosen):
                    images = tuple([symmetry[image] for image in images])
                made.append(images)
            self.assertEqual(sorted(made), sorted(all_maps(web, web)))

    def test_near_ladders(self):
        web = Web((0, 0, 0, 1), ((0, 1), (1, 2)))
        ladder = symmetries_of(web)
        self.assertEqual([len(told) for told in ladder], [4, 3, 2, 1])
        kinds = [[type(paper) for paper in told] for told in ladder]
        self.assertEqual(kinds[0], [tuple, dict, tuple, type(None)])
        self.assertTrue(are_symmetries(web, ladder))
        papers = [None, {}, True, [0, 1, 2, 3], ("same", (0, 1, 2, 3)), (0, True, 2, 3), 0, ladder[0][1]] + all_maps(web, web)
        papers += [(0, 1, 2), (1, 0, 2, 3), (0, 1, 2, 3, 4)]
        for at, here in [(at, here) for at in range(4) for here in range(4 - at)]:
            for paper in papers:
                bent = ladder[at][:here] + (paper,) + ladder[at][here + 1:]
                right = paper is None if ladder[at][here] is None else isinstance(paper, dict) and paper == ladder[at][here]
                if paper in all_maps(web, web) and True not in [value is True for value in paper]:
                    right = paper[:at + 1] == tuple(range(at)) + (at + here,)
                self.assertIs(are_symmetries(web, ladder[:at] + (bent,) + ladder[at + 1:]), right)
        for value in STRANGE + (ladder[:3], ladder + ((),), list(ladder), tuple([list(told) for told in ladder]), ladder[::-1],
                                (ladder[0] + (None,),) + ladder[1:], (ladder[0][:3],) + ladder[1:]):
            self.assertIs(are_symmetries(web, value), False)
        self.assertIs(are_symmetries(NO_WEB, ()), True)

    def test_untrue(self):
        # All points are led to one another, but not all tied ones: a prism of two triangles.
        prism = Web((0,) * 6, ((0, 1), (0, 2), (0, 3), (1, 2), (1, 4), (2, 5), (3, 4), (3, 5), (4, 5)))
        self.assertEqual(moved_points(prism), (0,) * 6)
        self.assertEqual(led_answer(prism, (0, 1), prism, (0, 3))[0], "unlike")
        self.assertEqual(symmetry_number(prism), symmetry_number(opposite(prism)))


class Forms(unittest.TestCase):
    def test_forms(self):
        webs = [one for one, _ in some_pairs()] + [ROOK, SHRIKHANDE, opposite(SHRIKHANDE), LOOSE, full(16), ring(16), path(16), grid(4, 4), CUBE,
                                                   beside(CUBE, CUBE), some_web(4, 16), some_web(6, 16, 0.2), beside(RING, TWO),
                                                   twisted(full(4), ()), beside(ring(7), path(9)), Web((-1, 3, -1, 3), ((0, 1),))]
        for seed, web in enumerate(webs):
            names = form_of(web)
            self.assertEqual(sorted(names), list(range(len(web))))
            form = renamed(web, names)
            for at in range(3):
                other = renamed(web, some_names(seed * 7 + at, len(web)))
                self.assertEqual(renamed(other, form_of(other)), form)
            self.assertEqual(form_of(web), names)

    def test_forms_of_unlike_webs(self):
        for one, other in list(some_pairs()) + list(large_pairs()):
            forms = [renamed(web, form_of(web)) for web in (one, other)]
            self.assertIs(forms[0] == forms[1], len(one) == len(other) and is_form_equal(one, other))

    def test_all_webs_of_four_points(self):
        pairs = list(itertools.combinations(range(4), 2))
        webs = [Web((0,) * 4, ties) for many in range(7) for ties in itertools.combinations(pairs, many)]
        forms = {}
        for web in webs:
            form = renamed(web, form_of(web))
            forms.setdefault(form.ties, []).append(web)
        self.assertEqual(len(forms), 11)
        for lot in forms.values():
            self.assertEqual(len(lot), renamed_number(lot[0]))


def is_form_equal(one, other):
    try:
        return same_answer(one, other)[0] == "same"
    except TooMany:
        return False


class Refusals(unittest.TestCase):
    def test_webs(self):
        for web in STRANGE:
            for function in (symmetries_of, symmetry_number, moved_points, form_of, renamed_number):
                check_refused(self, InvalidWeb(""), function, web)
            check_refused(self, InvalidWeb(""), are_symmetries, web, None)
            check_refused(self, InvalidWeb(""), look_of, web, None, None)
            for function, more in ((same_answer, ()), (is_same_answer, (None,)), (is_tries, (None,))):
                check_refused(self, InvalidWeb(""), function, web, FORTY, *more)
                check_refused(self, InvalidWeb(""), function, FORTY, web, *more)
            for function, more in ((are_like_rows, ()), (led_answer, ()), (is_led_answer, (None,))):
                check_refused(self, InvalidWeb(""), function, web, None, None, None, *more)
                check_refused(self, InvalidWeb(""), function, FORTY, (), web, None, *more)

    def test_rows(self):
        for row in WRONG_ROWS:
            if row == ():
                continue
            check_refused(self, InvalidRow(""), look_of, RING, row, None)
            for function, more in ((are_like_rows, ()), (led_answer, ()), (is_led_answer, (None,))):
                check_refused(self, InvalidRow(""), function, RING, row, None, None, *more)
                check_refused(self, InvalidRow(""), function, FORTY, (), RING, row, *more)
        for point in (-1, 6, True, None, "0", (0,), 10 ** 99):
            check_refused(self, InvalidNumber(point), look_of, RING, (0, 5, 1), point)

    def test_sixteen_points(self):
        beyond = path(17)
        for function in (symmetries_of, symmetry_number, moved_points, form_of, renamed_number):
            check_refused(self, TooMany(16), function, beyond)
        check_refused(self, TooMany(16), are_symmetries, beyond, None)
        check_refused(self, TooMany(16), look_of, beyond, (16,), 3)
        check_refused(self, InvalidNumber(17), look_of, beyond, (16,), 17)
        for one, other in ((beyond, DOT), (DOT, beyond)):
            check_refused(self, TooMany(16), same_answer, one, other)
            check_refused(self, TooMany(16), is_same_answer, one, other, None)
            check_refused(self, TooMany(16), is_tries, one, other, None)
            # Ahead of rows that are not like.
            for function, more in ((are_like_rows, ()), (led_answer, ()), (is_led_answer, (None,))):
                check_refused(self, TooMany(16), function, one, (), other, (0,), *more)
        self.assertEqual(symmetry_number(path(16)), 2)
        check_refused(self, InvalidOperation(""), led_answer, path(16), (0,), path(16), ())


if __name__ == "__main__":
    unittest.main()
