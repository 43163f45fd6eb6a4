"""Stage 15: lines."""
import fractions
import itertools
import random
import unittest

from fivealike.colour.alike import least_apart
from fivealike.errors import InvalidBags, InvalidNumber, InvalidWeb, TooMany
from fivealike.line.lines import (are_row_bags, is_line, is_line_answer, line_answer, line_of, path_width, row_of_bags,
                                  span_number)
from fivealike.program.point import is_point, point_of
from fivealike.web.maps import map_number
from fivealike.web.webs import Web, beside, renamed
from fivealike.width.bags import least_width
from fivealike.width.recipes import is_recipe, number_of
from helper import DOT, FORTY, NO_WEB, RING, STRANGE, TWO, check_refused, full, grid, path, ring, some_names, some_web, twisted
from test_point import told_partials, told_sums
from test_recipes import closed, some_recipe

SPIDER = Web((0,) * 7, ((0, 1), (0, 3), (0, 5), (1, 2), (3, 4), (5, 6)))
EVEN, ODD = twisted(SPIDER, ()), twisted(SPIDER, ((0, 1),))
PAIR, LOOSE = path(2), Web((0, 0), ())
WRONG_K = (0, 4, -1, True, False, None, "1", (1,), 10 ** 99, [])


def told_path_width(web):
    """The least width of all rows of bags, by all orders of the points."""
    least = len(web) - 1
    for order in itertools.permutations(range(len(web))):
        bags = []
        for at, point in enumerate(order):
            later = order[at:]
            bags.append([here for here in order[:at] if any(web.is_tied(here, there) for there in later)] + [point])
        least = min(least, max([len(bag) for bag in bags], default=0) - 1)
    return least


def told_row_bags(web, value):
    if set(itertools.chain(*value)) != set(range(len(web))):
        return False
    if not all(any(a in bag and b in bag for bag in value) for a, b in web.ties):
        return False
    for point in range(len(web)):
        at = [index for index, bag in enumerate(value) if point in bag]
        if at != list(range(at[0], at[-1] + 1)):
            return False
    return True


def told_span(one, other, k):
    """How many independent tables come of the table of ones, by the words, in fractions."""
    rows = [list(itertools.product(range(len(web)), repeat=k + 1)) for web in (one, other)]
    spots = [(which, row) for which in (0, 1) for row in rows[which]]
    webs = (one, other)
    colours = sorted({colour for web in webs for colour in web.colours if colour >= 0})
    tests = [lambda web, row, i=i, c=c: web.colours[row[i]] == c for i in range(k + 1) for c in colours]
    for i, j in itertools.combinations(range(k + 1), 2):
        tests.append(lambda web, row, i=i, j=j: web.is_tied(row[i], row[j]))
        tests.append(lambda web, row, i=i, j=j: row[i] == row[j])

    def steps(table):
        for test in tests:
            yield [number * test(webs[which], row) for (which, row), number in zip(spots, table)]
        told = dict(zip(spots, table))
        for i in range(k + 1):
            yield [sum([told[which, row[:i] + (v,) + row[i + 1:]] for v in range(len(webs[which]))]) for which, row in spots]

    kept, waiting = [], [[1] * len(spots)]
    while waiting:
        table = waiting.pop(0)
        left = [fractions.Fraction(number) for number in table]
        for at, row in kept:
            if left[at]:
                left = [a - left[at] * b for a, b in zip(left, row)]
        first = [at for at, number in enumerate(left) if number]
        if first:
            kept.append((first[0], [number / left[first[0]] for number in left]))
            waiting.extend(steps(table))
    return len(kept)


def told_signed_point(one, other, k, value):
    whole, numbers = value
    if numbers.get(()) != whole or whole < 1 or 0 in numbers.values():
        return False
    right = set(told_partials(one, other, k + 1))
    if not set(numbers) <= right:
        return False
    return all(sum([numbers.get(member, 0) for member in members]) == numbers.get(partial, 0)
               for (_, partial, _), members in told_sums(one, other, k).items())


class Recipes(unittest.TestCase):
    def test_judge(self):
        right = (("tie", 0, 1), ("sum", 1, 0), ("glue", 1, 0), ("sum", 0, 2), ("sum", 1, 3))
        self.assertIs(is_line(1, right), True)
        for value in STRANGE + (right[:4], list(right), (("tie", 0, 1), ("sum", 1, 0), ("glue", 1, 1), ("sum", 0, 2)), ("one",), RING,
                                (("point", 0), ("sum", 0, 0), ("glue", 1, 1)), right + (("glue", 4, 4),), (("tie", 0, 2),) + right[1:]):
            self.assertIs(is_line(1, value), False)
        # Also a glue that the last line does not need.
        self.assertIs(is_line(1, right[:4] + (("glue", 1, 1),) + right[4:]), False)
        self.assertIs(is_line(1, (("point", 0), ("sum", 0, 0), ("one",), ("glue", 1, 2))), True)
        self.assertIs(is_line(1, (("point", 0), ("sum", 0, 0), ("one",), ("glue", 2, 1))), True)
        for k in WRONG_K:
            check_refused(self, InvalidNumber(k), is_line, k, right)

    def test_told(self):
        for seed in range(60):
            k = seed % 3 + 1
            recipe = closed(some_recipe(seed, k, 8), k)
            depths = []
            for line in recipe:
                depths.append(max(depths[line[1]], depths[line[2]]) if line[0] == "glue" else depths[line[2]] + 1 if line[0] == "sum" else 0)
            glues = [line for line in recipe if line[0] == "glue"]
            self.assertIs(is_line(k, recipe), all(0 in (depths[line[1]], depths[line[2]]) for line in glues))


class Rows(unittest.TestCase):
    def test_judge(self):
        lots = [lot for many in range(4) for lot in itertools.combinations(range(3), many)]
        for web in (path(3), full(3), Web((0,) * 3, ())):
            for many in range(4):
                for value in itertools.product(lots, repeat=many):
                    self.assertIs(are_row_bags(web, value), told_row_bags(web, value))

    def test_edges(self):
        self.assertIs(are_row_bags(RING, ((0, 1, 5), (1, 2, 5), (2, 4, 5), (2, 3, 4))), True)
        # A gap, bags of no points, the same bag several times.
        self.assertIs(are_row_bags(RING, ((0, 1, 5), (1, 2, 5), (2, 3, 4), (2, 4, 5))), False)
        self.assertIs(are_row_bags(PAIR, ((), (0, 1), (), ())), True)
        self.assertIs(are_row_bags(LOOSE, ((0,), (), (1,))), True)
        self.assertIs(are_row_bags(LOOSE, ((0,), (), (0, 1))), False)
        self.assertIs(are_row_bags(PAIR, ((0, 1),) * 150), True)
        self.assertIs(are_row_bags(NO_WEB, ()), True)
        self.assertIs(are_row_bags(NO_WEB, ((), ())), True)
        self.assertIs(are_row_bags(DOT, ()), False)
        for value in STRANGE[:6] + STRANGE[7:11] + (((0, 1), None), [(0, 1)], ([0, 1],), ((1, 0),), ((0, 0, 1),), ((0, True),), ((0, 1, 2),),
                                                    ((-1, 0, 1),), ((0, 1), 7), ((0, 1), (10 ** 99,)), ((0,), (1,)), RING, (0, 1)):
            self.assertIs(are_row_bags(PAIR, value), False)
        check_refused(self, InvalidWeb(""), are_row_bags, None, ())

    def test_path_width(self):
        for seed in range(50):
            web = some_web(seed, seed % 7, (0.3, 0.5, 0.8)[seed % 3])
            width = path_width(web)
            self.assertEqual(width, told_path_width(web))
            self.check_row(web, width)
        for web, width in ((path(12), 1), (ring(12), 2), (full(12), 11), (grid(3, 4), 3), (Web((0,) * 12, ()), 0), (SPIDER, 2), (NO_WEB, -1),
                           (beside(SPIDER, path(5)), 2), (full(1), 0)):
            self.assertEqual(path_width(web), width)
            self.check_row(web, width)
        for seed in range(10):
            web = some_web(seed, 12, 0.3)
            self.assertGreaterEqual(path_width(web), least_width(web))
            self.check_row(web, path_width(web))

    def check_row(self, web, width):
        row = row_of_bags(web)
        self.assertIs(are_row_bags(web, row), True)
        self.assertTrue(told_row_bags(web, row))
        self.assertEqual(max([len(bag) for bag in row], default=0) - 1, width)

    def test_limit(self):
        for function in (path_width, row_of_bags):
            check_refused(self, TooMany(12), function, path(13))
            check_refused(self, TooMany(12), function, FORTY)
            for web in STRANGE:
                check_refused(self, InvalidWeb(""), function, web)

    def test_line_of(self):
        for seed in range(60):
            pattern = some_web(seed, seed % 6, 0.4, (-1, 0, 1))
            k = max(path_width(pattern), 1)
            if k > 3:
                continue
            row = row_of_bags(pattern)
            for bags in (row, tuple(reversed(row)), ((),) + row + ((),), tuple([bag for bag in row for _ in range(3)])):
                recipe = line_of(pattern, bags, k)
                self.assertIs(is_line(k, recipe), True)
                for web in (some_web(seed + 3, 4, 0.6, (0, 1)), DOT, NO_WEB):
                    self.assertEqual(number_of(recipe, k, web), map_number(pattern, web))
        self.assertEqual(number_of(line_of(NO_WEB, (), 1), 1, RING), 1)
        long = line_of(path(40), tuple([(at, at + 1) for at in range(39)]), 1)
        self.assertEqual(number_of(long, 1, RING), 6 * 2 ** 39)
        wide = line_of(Web((-1,) * 40, ()), tuple([(at,) for at in range(40)]), 3)
        self.assertEqual(number_of(wide, 3, DOT), 1)

    def test_line_of_refusals(self):
        # k is looked at ahead of the bags.
        for k in WRONG_K:
            check_refused(self, InvalidNumber(k), line_of, RING, None, k)
            check_refused(self, InvalidWeb(""), line_of, None, None, k)
        row = ((0, 1, 5), (1, 2, 5), (2, 4, 5), (2, 3, 4))
        for value in STRANGE + (row[1:], list(row), ((0, 1, 2, 3, 4, 5),)):
            check_refused(self, InvalidBags(""), line_of, RING, value, 3)
        check_refused(self, InvalidBags(""), line_of, RING, row, 1)
        self.assertIs(is_line(2, line_of(RING, row, 2)), True)


def some_pairs():
    """Pairs of webs within the lesser rows limit, and a k."""
    for seed in range(24):
        k = seed % 3 + 1
        many = seed % 4 + (k < 3)
        one = some_web(seed, many, 0.5, (0,) if seed % 4 else (0, 1, -1))
        yield one, some_web(seed + 90, many, 0.5, (0,) if seed % 4 else (0, 1, -1)), k
        yield one, renamed(one, some_names(seed, many)), k
    yield from [(RING, TWO, 1), (RING, TWO, 2), (NO_WEB, NO_WEB, 1), (NO_WEB, DOT, 2), (DOT, NO_WEB, 3), (DOT, PAIR, 1),
                (path(5, 1), path(5, 3), 1), (path(5, 1), path(5, 2), 1), (path(4), beside(path(2), path(2)), 1), (EVEN, ODD, 1),
                (twisted(full(3), ()), twisted(full(3), ((0, 1),)), 1), (twisted(full(3), ()), twisted(full(3), ((0, 1),)), 2)]


class Answers(unittest.TestCase):
    def test_told(self):
        for one, other, k in some_pairs():
            kind, paper = answer = line_answer(one, other, k)
            self.assertIs(is_line_answer(one, other, k, answer), True)
            self.assertIs(is_line_answer(one, other, k, ("line" if kind == "point" else "point", paper)), False)
            if least_apart(one, other, k) is None:
                self.assertEqual(kind, "point")
            if kind == "point":
                self.assertEqual(list(paper[1]), sorted(paper[1]))
                if len(one) <= 4:
                    self.assertTrue(told_signed_point(one, other, k, paper))
            else:
                self.assertIs(is_line(k, paper), True)
                self.assertNotEqual(number_of(paper, k, one), number_of(paper, k, other))

    def test_signs(self):
        # Apart, but no line recipe tells it: the point has integers below 0.
        kind, (whole, numbers) = line_answer(EVEN, ODD, 1)
        self.assertEqual((kind, least_apart(EVEN, ODD, 1)), ("point", 3))
        self.assertLess(min(numbers.values()), 0)
        self.assertIs(is_line_answer(EVEN, ODD, 1, ("point", (whole, numbers))), True)
        great = 10 ** 50
        self.assertIs(is_line_answer(EVEN, ODD, 1, ("point", (whole * great, {at: number * great for at, number in numbers.items()}))), True)
        for seed in range(40):
            pattern = some_web(seed, 5, 0.4)
            if path_width(pattern) <= 1:
                recipe = line_of(pattern, row_of_bags(pattern), 1)
                self.assertEqual(number_of(recipe, 1, EVEN), number_of(recipe, 1, ODD))
        # The base itself, a tree, has unlike numbers, but no row of bags of the width 1.
        base = Web((-1,) * 7, SPIDER.ties)
        self.assertEqual((least_width(base), path_width(base)), (1, 2))

    def test_spans(self):
        for one, other, k in some_pairs():
            if len(one) ** (k + 1) + len(other) ** (k + 1) <= 80:
                wanted = told_span(one, other, k)
                if wanted > 64:
                    check_refused(self, TooMany(64), span_number, one, other, k)
                else:
                    self.assertEqual(span_number(one, other, k), wanted)
        self.assertEqual(span_number(NO_WEB, NO_WEB, 3), 0)
        self.assertEqual(span_number(NO_WEB, DOT, 3), 1)
        self.assertEqual([span_number(EVEN, ODD, 1), span_number(RING, TWO, 1)], [22, 3])

    def test_span_limit(self):
        # Eight colours make 64 tables, nine 81.
        eight, nine = Web(tuple(range(8)), ()), Web(tuple(range(9)), ())
        self.assertEqual(span_number(eight, eight, 1), 64)
        check_refused(self, TooMany(64), span_number, nine, nine, 1)
        check_refused(self, TooMany(64), span_number, some_web(3, 17), some_web(4, 17), 1)
        self.assertEqual(line_answer(some_web(3, 17), some_web(4, 17), 1)[0], "line")
        self.assertEqual(line_answer(some_web(3, 17), renamed(some_web(3, 17), some_names(1, 17)), 1)[0], "point")

    def test_judge(self):
        line = line_answer(RING, TWO, 2)[1]
        bent = (("tie", 0, 1), ("sum", 1, 0), ("glue", 1, 1), ("sum", 0, 2))
        for value in STRANGE + (("line", line[:-1]), ("line", list(line)), ["line", line], line, ("line", line, ()), ("point", line), ("line", bent),
                                ("line", (("one",),)), ("line", (("point", 0), ("sum", 0, 0))), ("line",), ("line", None)):
            self.assertIs(is_line_answer(RING, TWO, 2, value), False)
        self.assertIs(is_line_answer(RING, TWO, 2, ("line", line)), True)
        # Unlike numbers of a recipe that is no line recipe do not count.
        wheel = (("tie", 0, 1), ("tie", 0, 2), ("tie", 1, 2), ("glue", 0, 1), ("glue", 2, 3), ("sum", 2, 4), ("glue", 5, 5), ("sum", 1, 6),
                 ("sum", 0, 7))
        self.assertTrue(is_recipe(2, wheel) and number_of(wheel, 2, RING) != number_of(wheel, 2, TWO))
        self.assertIs(is_line_answer(RING, TWO, 2, ("line", wheel)), False)
        # 216 rows let 1851 lines.
        for many, right in ((1851, True), (1852, False)):
            shift = many - len(line)
            moved = (("one",),) * shift + tuple([move(told, shift) for told in line])
            self.assertIs(is_line_answer(RING, TWO, 2, ("line", moved)), right)
        whole, numbers = point_of(RING, TWO, 1)
        pair = ((0, 0),)
        for value in ((whole + 1, numbers), (whole, {**numbers, pair: -numbers[pair]}), (-whole, {at: -number for at, number in numbers.items()}),
                      (whole, {at: numbers[at] for at in numbers if at != pair}), (0, {}), (whole, {**numbers, ((0, 0), (1, 3)): 1}),
                      (whole, {**numbers, ((0, 0), (0, 1)): 1}), (whole, {**numbers, (): True}), (whole, {**numbers, pair: None}),
                      (whole, {**numbers, "a": 1}), [whole, numbers], (whole, list(numbers)), (whole,), (str(whole), numbers)):
            self.assertIs(is_line_answer(RING, TWO, 1, ("point", value)), False)
        self.assertIs(is_line_answer(RING, TWO, 1, ("point", (whole, numbers))), True)

    def test_noughts_are_not_told(self):
        numbers = {(): 1, ((0, 0),): 1, ((1, 1),): 1, ((0, 0), (1, 1)): 1}
        self.assertIs(is_line_answer(LOOSE, LOOSE, 1, ("point", (1, numbers))), True)
        self.assertIs(is_line_answer(LOOSE, LOOSE, 1, ("point", (1, {**numbers, ((0, 1),): 0}))), False)
        # Of any sign: twice this one, less the other one.
        signed = {(): 1, ((0, 0),): 2, ((1, 1),): 2, ((0, 1),): -1, ((1, 0),): -1, ((0, 0), (1, 1)): 2, ((0, 1), (1, 0)): -1}
        self.assertIs(is_line_answer(LOOSE, LOOSE, 1, ("point", (1, signed))), True)
        self.assertIs(is_point(LOOSE, LOOSE, 1, (1, signed)), False)

    def test_bent_points(self):
        """All small numbers for the partials of two points, by the words."""
        unknowns = told_partials(PAIR, PAIR, 2)[1:]
        source = random.Random(7)
        for _ in range(3000):
            numbers = {(): 1, **{partial: number for partial in unknowns for number in [source.choice((-1, 0, 1, 2))] if number}}
            self.assertIs(is_line_answer(PAIR, PAIR, 1, ("point", (1, numbers))), told_signed_point(PAIR, PAIR, 1, (1, numbers)))

    def test_untrue(self):
        self.assertNotEqual(least_apart(EVEN, ODD, 1), None)
        self.assertEqual(path_width(SPIDER), 2)

    def test_refusals(self):
        for function, more in ((span_number, ()), (line_answer, ()), (is_line_answer, (None,))):
            for web in STRANGE:
                check_refused(self, InvalidWeb(""), function, web, FORTY, None, *more)
                check_refused(self, InvalidWeb(""), function, FORTY, web, None, *more)
            for k in WRONG_K:
                check_refused(self, InvalidNumber(k), function, FORTY, FORTY, k, *more)
            for k, within, beyond in ((1, 17, 18), (2, 6, 7), (3, 4, 5)):
                check_refused(self, TooMany(300), function, full(beyond), DOT, k, *more)
                check_refused(self, TooMany(300), function, DOT, full(beyond), k, *more)
                function(full(within), DOT, k, *more)


def move(line, shift):
    if line[0] == "glue":
        return ("glue", line[1] + shift, line[2] + shift)
    return ("sum", line[1], line[2] + shift) if line[0] == "sum" else line


if __name__ == "__main__":
    unittest.main()
