"""Stage 12: multipliers that bar the program."""
import itertools
import random
import unittest

import told
from fivealike.colour.alike import least_apart
from fivealike.colour.rounds import stable_names
from fivealike.errors import InvalidMap, InvalidNumber, InvalidOperation, InvalidWeb, TooMany
from fivealike.program.bars import (are_bars, are_multipliers, coefficients, do_refuse, is_partial_answer,
                                    is_program_answer, partial_answer, program_answer, turned)
from fivealike.program.point import is_point, map_point, members, partials, point_of
from fivealike.web.webs import Web, beside, renamed
from helper import DOT, FORTY, NO_WEB, RING, STRANGE, TWO, check_refused, full, path, ring, some_names, some_web
from test_point import LOOSE, PAIR, PATH, TURNED, WRONG_K, some_pairs, told_sums

# Refuses nobody: the coefficients are 1 at one partial and below 0 at others.
BENT = {("first", ((0, 0),), 1): 1}


def told_coefficients(one, other, k, multipliers):
    """The coefficients, by the words."""
    found = {}
    sums = told_sums(one, other, k)
    for total, number in multipliers.items():
        for member in sums[total]:
            found[member] = found.get(member, 0) + number
        found[total[1]] = found.get(total[1], 0) - number
    return {partial: number for partial, number in found.items() if number}


def some_multipliers(seed, one, other, k):
    source = random.Random(seed)
    totals = list(told_sums(one, other, k))
    return {total: source.choice((-2, -1, 1, 3)) for total in source.sample(totals, min(len(totals), 6))}


class Multipliers(unittest.TestCase):
    def test_told(self):
        for at, (one, other, k) in enumerate(some_pairs()):
            if len(one) * len(other) > 12:
                continue
            for seed in range(3):
                multipliers = some_multipliers(at * 9 + seed, one, other, k)
                self.assertIs(are_multipliers(one, other, k, multipliers), True)
                made = coefficients(one, other, k, multipliers)
                wanted = told_coefficients(one, other, k, multipliers)
                self.assertEqual(made, wanted)
                self.assertEqual(list(made), sorted(made))
                refused = [partial for partial in wanted if min(wanted.values()) > 0]
                for partial in partials(one, other, k):
                    self.assertIs(do_refuse(one, other, k, partial, multipliers), partial in refused)
                self.assertIs(are_bars(one, other, k, multipliers), () in refused)
                back = turned(one, other, k, multipliers)
                self.assertEqual(list(back), sorted(back))
                self.assertEqual(turned(other, one, k, back), multipliers)
                self.assertEqual(coefficients(other, one, k, back),
                                 {tuple(sorted([(w, v) for v, w in partial])): number for partial, number in made.items()})

    def test_all_coefficients_times_a_point(self):
        for one, other, k in ((RING, TWO, 1), (PATH, TURNED, 1), (path(3), path(3), 2)):
            numbers = point_of(one, other, k)[1]
            for seed in range(5):
                found = coefficients(one, other, k, some_multipliers(seed, one, other, k))
                self.assertEqual(sum([number * numbers.get(partial, 0) for partial, number in found.items()]), 0)

    def test_without_sums(self):
        for one, other in ((DOT, NO_WEB), (NO_WEB, NO_WEB), (RING, TWO)):
            self.assertIs(are_multipliers(one, other, 1, {}), True)
            self.assertEqual(coefficients(one, other, 1, {}), {})
            self.assertIs(are_bars(one, other, 1, {}), False)
            self.assertEqual(turned(one, other, 1, {}), {})

    def test_sums_of_own_pairs_and_without_members(self):
        self.assertEqual(coefficients(PAIR, PAIR, 1, {("first", ((0, 1),), 0): 5}), {})
        self.assertEqual(coefficients(DOT, NO_WEB, 2, {("first", (), 0): -10 ** 50}), {(): 10 ** 50})
        self.assertIs(are_bars(DOT, NO_WEB, 2, {("first", (), 0): -10 ** 50}), True)
        self.assertIs(are_bars(DOT, NO_WEB, 2, {("first", (), 0): 10 ** 50}), False)
        self.assertIs(are_bars(NO_WEB, DOT, 2, {("second", (), 0): -1}), True)
        self.assertEqual(turned(DOT, NO_WEB, 2, {("first", (), 0): -10 ** 50}), {("second", (), 0): -10 ** 50})

    def test_any_value(self):
        for value in STRANGE[:8] + STRANGE[9:] + (
                {("first", (), 0): 0}, {("first", (), 0): True}, {("first", (), 0): None}, {("first", (), 0): "1"}, {("first", ()): 1},
                {("first", (), 3): 1}, {("third", (), 0): 1}, {("first", ((0, 0), (1, 2)), 0): 1}, {("first", (), False): 1}, {0: 1},
                [("first", (), 0)], ("first", (), 0), {("first", (), 0): (1,)}, {("first", (), 0): 1, "a": 1}, {(): 1},
                {("first", ((0, True),), 0): 1}):
            self.assertIs(are_multipliers(PATH, TURNED, 1, value), False)
            self.assertIs(do_refuse(PATH, TURNED, 1, (), value), False)
            self.assertIs(are_bars(PATH, TURNED, 1, value), False)
            check_refused(self, InvalidOperation(""), coefficients, PATH, TURNED, 1, value)
            check_refused(self, InvalidOperation(""), turned, PATH, TURNED, 1, value)


class Answers(unittest.TestCase):
    def check_refuses(self, one, other, k, partial, multipliers):
        self.assertIs(do_refuse(one, other, k, partial, multipliers), True)
        self.assertEqual(list(multipliers), sorted(multipliers))
        if len(one) * len(other) <= 12:
            found = told_coefficients(one, other, k, multipliers)
            self.assertTrue(found[partial] > 0 and min(found.values()) > 0)

    def test_programs(self):
        for one, other, k in some_pairs():
            kind, paper = answer = program_answer(one, other, k)
            self.assertIs(is_program_answer(one, other, k, answer), True)
            self.assertEqual(kind, "point" if least_apart(one, other, k) is None else "bars")
            if kind == "point":
                self.assertIs(is_point(one, other, k, paper), True)
            else:
                self.check_refuses(one, other, k, (), paper)
                self.assertIs(are_bars(one, other, k, paper), True)
                self.assertIs(are_bars(other, one, k, turned(one, other, k, paper)), True)
            self.assertIs(is_program_answer(one, other, k, ("bars" if kind == "point" else "point", paper)), False)

    def test_partials(self):
        for one, other, k in some_pairs():
            names = stable_names((one, other), k)
            everything = partials(one, other, min(k, 2))
            for partial in everything if len(everything) < 80 else everything[::17]:
                kind, paper = answer = partial_answer(one, other, k, partial)
                self.assertIs(is_partial_answer(one, other, k, partial, answer), True)
                alike = names[0][tuple([v for v, _ in partial])] == names[1][tuple([w for _, w in partial])]
                self.assertEqual(kind, "point" if alike else "refused")
                if kind == "point":
                    self.assertTrue(is_point(one, other, k, paper) and partial in paper[1])
                else:
                    self.check_refuses(one, other, k, partial, paper)

    def test_never_both(self):
        """What is refused is above 0 at none of the points of all maps."""
        for one, other, k in ((path(4), path(4), 1), (PATH, TURNED, 2), (ring(4), ring(4), 2), (path(3, 0), path(3, 2), 1)):
            points = []
            for images in itertools.permutations(range(len(one))):
                try:
                    points.append(map_point(one, other, k, images)[1])
                except InvalidMap:
                    continue
            self.assertNotEqual(points, [])
            for partial in partials(one, other, k):
                kind = partial_answer(one, other, k, partial)[0]
                self.assertEqual(kind, "point" if any(partial in numbers for numbers in points) else "refused")

    def test_late_ones(self):
        for one, other, k in ((path(17, 7), path(17, 6), 1), (path(16, 4), path(16, 5), 1), (path(6, 2), path(6, 1), 2),
                              (ring(6), beside(ring(3), ring(3)), 2), (beside(ring(3), ring(3)), ring(6), 2)):
            kind, paper = program_answer(one, other, k)
            self.assertEqual(kind, "bars")
            self.assertIs(are_bars(one, other, k, paper), True)
        one = path(17)
        for partial in (((8, 7),), ((0, 5),), ((3, 13),)):
            answer = partial_answer(one, one, 1, partial)
            self.assertIs(is_partial_answer(one, one, 1, partial, answer), True)
            self.assertEqual(answer[0], "point" if partial == ((3, 13),) else "refused")

    def test_wrong_answers(self):
        kind, bars = program_answer(RING, TWO, 2)
        point = program_answer(RING, TWO, 1)[1]
        total = list(bars)[0]
        for value in STRANGE + (("bars", {}), ("bars", bars, ()), ["bars", bars], ("bars", list(bars)), ("point", point), ("refused", bars),
                                ("bars", {other: -number for other, number in bars.items()}), bars, ("bars", {**bars, total: True}),
                                ("bars", {other: bars[other] for other in bars if other[1] != ()}), ("bars", None), ("bars",)):
            self.assertIs(is_program_answer(RING, TWO, 2, value), False)
        great = {other: number * 10 ** 40 for other, number in bars.items()}
        self.assertIs(is_program_answer(RING, TWO, 2, ("bars", great)), True)
        self.assertIs(is_program_answer(RING, TWO, 1, ("point", point)), True)
        for value in STRANGE + (("bars", bars), point, ("point", point[1]), ("point", (point[0], {(): point[0]})), ("refused", {})):
            self.assertIs(is_program_answer(RING, TWO, 1, value), False)
        kind, refusing = partial_answer(PATH, TURNED, 1, ((0, 0),))
        self.assertEqual(kind, "refused")
        for value in STRANGE + (("bars", refusing), ("refused", BENT), ("point", point_of(PATH, TURNED, 1)), ("refused", {}),
                                ("refused", {total: -number for total, number in refusing.items()})):
            self.assertIs(is_partial_answer(PATH, TURNED, 1, ((0, 0),), value), False)
        self.assertIs(is_partial_answer(PATH, TURNED, 1, ((0, 0),), ("refused", refusing)), True)
        self.assertIs(is_partial_answer(PATH, TURNED, 1, ((1, 0),), ("refused", refusing)), False)
        # A point at which this partial is 0 is none for it.
        self.assertIs(is_partial_answer(RING, RING, 1, ((0, 2),), ("point", map_point(RING, RING, 1, tuple(range(6))))), False)
        self.assertIs(is_partial_answer(RING, RING, 1, ((2, 2),), ("point", map_point(RING, RING, 1, tuple(range(6))))), True)

    def test_untrue(self):
        # A partial that is 0 at one point, but not refused.
        self.assertEqual(partial_answer(RING, RING, 1, ((0, 2),))[0], "point")
        # Bars of webs with equally many points without sums of one word: in this web no point is of the colour 1.
        one, other = Web((0, 1), ()), Web((0, 0), ())
        self.assertIs(are_bars(one, other, 1, {("first", (), 1): -1}), True)
        # So there is no multiplier above 0, either.
        self.assertEqual(coefficients(one, other, 1, {("first", (), 1): -1}), {(): 1})


class Refusals(unittest.TestCase):
    CALLS = ((are_multipliers, (None,)), (coefficients, (None,)), (do_refuse, (None, None)), (are_bars, (None,)), (program_answer, ()),
             (is_program_answer, (None,)), (partial_answer, (None,)), (is_partial_answer, (None, None)), (turned, (None,)))

    def test_webs_and_k(self):
        for function, more in self.CALLS:
            for web in STRANGE:
                check_refused(self, InvalidWeb(""), function, web, FORTY, None, *more)
                check_refused(self, InvalidWeb(""), function, FORTY, web, None, *more)
            for k in WRONG_K:
                check_refused(self, InvalidNumber(k), function, FORTY, FORTY, k, *more)

    def test_partials(self):
        for function, more in ((do_refuse, (None,)), (partial_answer, ()), (is_partial_answer, (None,))):
            for value in STRANGE[:6] + STRANGE[7:] + (((0, 0), (1, 1)), ((0, True),), ((0, 40),), [(0, 0)], ((0, 0), (0, 0)), 0):
                check_refused(self, InvalidMap(""), function, FORTY, FORTY, 1, value, *more)
            # Of at most k pairs.
            check_refused(self, InvalidMap(""), function, FORTY, FORTY, 2, ((0, 0), (1, 1), (2, 2)), *more)
        self.assertIs(do_refuse(FORTY, FORTY, 2, ((0, 0), (1, 1)), {}), False)

    def test_lesser_limit(self):
        for k, within, beyond in ((1, 17, 18), (2, 6, 7), (3, 4, 5)):
            for one, other in ((full(beyond), DOT), (DOT, full(beyond))):
                check_refused(self, TooMany(300), program_answer, one, other, k)
                check_refused(self, TooMany(300), is_program_answer, one, other, k, None)
                check_refused(self, TooMany(300), partial_answer, one, other, k, ())
                check_refused(self, TooMany(300), is_partial_answer, one, other, k, (), None)
            self.assertEqual(program_answer(full(within), full(within), k)[0], "point")
            self.assertEqual(program_answer(full(within), DOT, k)[0], "bars")
            # Multipliers themselves have no limit.
            totals = {("first", (), point): -1 for point in range(beyond)}
            totals[("second", (), 0)] = 1
            self.assertIs(are_bars(full(beyond), DOT, k, totals), True)
            self.assertEqual(coefficients(full(beyond), DOT, k, totals), {(): beyond - 1})
        self.assertIs(are_multipliers(FORTY, FORTY, 3, {("second", ((3, 4),), 39): -7}), True)
        self.assertEqual(len(members(FORTY, FORTY, 3, ("second", ((3, 4),), 39))), 39)


if __name__ == "__main__":
    unittest.main()
