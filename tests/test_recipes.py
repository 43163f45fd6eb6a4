"""Stage 4: recipes, and counts along bags."""
import itertools
import random
import unittest

from fivealike.errors import InvalidBags, InvalidNumber, InvalidOperation, InvalidRecipe, InvalidWeb, Refused, TooMany
from fivealike.web.maps import is_same, map_number
from fivealike.web.webs import Web, pieces
from fivealike.width.bags import bags_along, bags_width, is_bags
from fivealike.width.recipes import (MOST_LINES, count_along, is_open, is_recipe, number_of, pattern_of, recipe_depth,
                                     recipe_of, recipe_places, recipe_table)
from helper import (DOT, FORTY, NO_WEB, RING, STRANGE, check_refused, full, path, ring, some_names, some_web)

THREE = (("tie", 0, 1), ("tie", 0, 2), ("tie", 1, 2), ("glue", 0, 1), ("glue", 2, 3), ("sum", 2, 4), ("sum", 1, 5),
         ("sum", 0, 6))
BENT = (("tie", 0, 1), ("sum", 1, 0), ("glue", 1, 1), ("sum", 0, 2))
WRONG_K = (0, 4, -1, True, False, None, "1", (1,), 10 ** 99, [])
NO_BAGS = (((),), (None,))


def told_lines(k, recipe, web):
    """Pairs of the places and of the whole table of each line, by the words of the document."""
    found = []
    for line in recipe:
        if line[0] == "one":
            places, test = (), lambda row: 1
        elif line[0] == "point":
            places, test = (line[1],), lambda row: 1
        elif line[0] == "colour":
            places, test = (line[1],), lambda row, c=line[2]: int(web.colours[row[0]] == c)
        elif line[0] == "tie":
            places, test = line[1:], lambda row: int(web.is_tied(row[0], row[1]))
        elif line[0] == "same":
            places, test = line[1:], lambda row: int(row[0] == row[1])
        elif line[0] == "glue":
            (first, one), (second, other) = found[line[1]], found[line[2]]
            places = tuple(sorted(set(first) | set(second)))

            def test(row, first=first, second=second, one=one, other=other, places=places):
                leads = dict(zip(places, row))
                return one[tuple([leads[i] for i in first])] * other[tuple([leads[i] for i in second])]
        else:
            inner, table = found[line[2]]
            places = tuple([i for i in inner if i != line[1]])

            def test(row, inner=inner, table=table, places=places, place=line[1]):
                leads = dict(zip(places, row))
                rows = [tuple([point if i == place else leads[i] for i in inner]) for point in range(len(web))]
                return sum([table[far] for far in rows])
        rows = itertools.product(range(len(web)), repeat=len(places))
        found.append((tuple(places), {row: test(row) for row in rows}))
    return found


def some_recipe(seed, k, many):
    """An open recipe that hangs on the seed alone."""
    source = random.Random(seed)
    lines, places = [], []
    while len(lines) < many:
        word = source.choice(("one", "point", "tie", "tie", "same", "colour", "glue", "glue", "glue", "sum", "sum"))
        i, j = sorted(source.sample(range(k + 1), 2))
        if word in ("tie", "same"):
            line, told = (word, i, j), {i, j}
        elif word in ("point", "one"):
            line, told = ((word, i), {i}) if word == "point" else ((word,), set())
        elif word == "colour":
            line, told = (word, i, source.choice((0, 1, 9))), {i}
        elif lines == []:
            continue
        elif word == "glue":
            a, b = source.randrange(len(lines)), source.randrange(len(lines))
            line, told = (word, a, b), places[a] | places[b]
        else:
            a = source.randrange(len(lines))
            if not places[a]:
                continue
            i = source.choice(sorted(places[a]))
            line, told = (word, i, a), places[a] - {i}
        lines.append(line)
        places.append(told)
    return tuple(lines)


def closed(recipe, k):
    """The recipe with all places of its last line summed out."""
    places = recipe_places(recipe, k)[-1]
    return recipe + tuple([("sum", place, len(recipe) - 1 + at) for at, place in enumerate(places)])


class Judges(unittest.TestCase):
    def test_right_lines(self):
        for k in (1, 2, 3):
            for i in range(k + 1):
                for line in (("point", i), ("colour", i, 0), ("colour", i, 9)):
                    self.assertIs(is_open(k, (line,)), True)
                    self.assertIs(is_recipe(k, (line,)), False)
                    self.assertIs(is_recipe(k, (line, ("sum", i, 0))), True)
                for j in range(i + 1, k + 1):
                    self.assertTrue(is_open(k, (("tie", i, j), ("same", i, j), ("glue", 0, 1), ("glue", 2, 2))))
            self.assertIs(is_recipe(k, (("one",),)), True)

    def test_wrong_lines(self):
        ahead = (("tie", 0, 1), ("one",))
        for line in ((), ("two",), ("one", 0), ("point",), ("point", 2), ("point", -1), ("point", True), ("point", "0"),
                     ("tie", 1, 0), ("tie", 0, 0), ("tie", 0, 2), ("tie", 0), ("tie", 0, 1, 0), ("tie", False, True),
                     ("tie", 0, True), ("same", 1, 0), ("same", 1, 1), ("same", 0, 2), ("same", False, 1),
                     ("colour", 0, -1), ("colour", 0, 10), ("colour", 2, 0), ("colour", 0), ("colour", 0, True),
                     ("colour", True, 0), ("glue", 0, 2), ("glue", 2, 0), ("glue", 3, 0), ("glue", -1, 0), ("glue", 0), ("glue", 0, True),
                     ("glue", False, 0), ("glue", 0, 1, 1), ("sum", 0, 1), ("sum", 2, 0), ("sum", 0, 2), ("sum", 0, -1),
                     ("sum", True, 0), ("sum", 0, False), ("sum", 0), ("sum", 0, 0, 0), ["one"], ("one",) * 2, "one", None,
                     7, (("one",),), ("glue", 10 ** 99, 0), ("point", 10 ** 99), (1, 0), (None, 0, 1), ({}, 0)):
            self.assertIs(is_open(1, ahead + (line,)), False, line)
            self.assertIs(is_recipe(1, ahead + (line, ("one",))), False, line)
            check_refused(self, InvalidRecipe(""), recipe_places, ahead + (line,), 1)

    def test_any_value(self):
        for value in STRANGE + ([("one",)], (["one"],), ("one",), "one", ((),), {("one",): 0}, RING):
            for function in (is_open, is_recipe):
                self.assertIs(function(1, value), False)

    def test_lengths(self):
        self.assertEqual(MOST_LINES, 2000)
        for many, right in ((1, True), (1999, True), (2000, True), (2001, False)):
            self.assertIs(is_open(3, (("one",),) * many), right)
            self.assertIs(is_recipe(1, (("one",),) * many), right)
        self.assertFalse(is_open(1, ()) or is_recipe(1, ()))

    def test_k(self):
        for k in WRONG_K:
            for function in (is_open, is_recipe):
                check_refused(self, InvalidNumber(k), function, k, THREE)
            # k is looked at ahead of the recipe.
            for function in (recipe_places, recipe_depth, pattern_of):
                check_refused(self, InvalidNumber(k), function, None, k)
            for function in (recipe_table, number_of):
                check_refused(self, InvalidNumber(k), function, None, k, None)
        self.assertFalse(is_open(1, THREE))
        self.assertTrue(is_open(2, THREE) and is_open(3, THREE))

    def test_random_ones(self):
        for seed in range(40):
            k = seed % 3 + 1
            recipe = some_recipe(seed, k, 12)
            told = [places for places, _ in told_lines(k, recipe, DOT)]
            self.assertTrue(is_open(k, recipe))
            self.assertEqual(recipe_places(recipe, k), tuple(told))
            self.assertIs(is_recipe(k, recipe), told[-1] == ())


class Depths(unittest.TestCase):
    def test_depth(self):
        for seed in range(40):
            recipe = some_recipe(seed, 2, 15)
            depths = []
            for line in recipe:
                if line[0] == "glue":
                    depths.append(max(depths[line[1]], depths[line[2]]))
                else:
                    depths.append(depths[line[2]] + 1 if line[0] == "sum" else 0)
            self.assertEqual(recipe_depth(recipe, 2), depths[-1])

    def test_long(self):
        tied = (("point", 0), ("sum", 0, 0))
        for _ in range(600):
            tied += (("glue", 0, len(tied) - 1), ("sum", 0, len(tied)))
        self.assertEqual(recipe_depth(tied, 1), 601)
        self.assertEqual(number_of(tied, 1, Web((0, 0), ())), 2 ** 601)

    def test_untrue(self):
        # A recipe of the depth 2 with a pattern of three points.
        self.assertEqual((recipe_depth(BENT, 1), len(pattern_of(BENT, 1)[0])), (2, 3))

    def test_errors(self):
        for function in (recipe_places, recipe_depth, pattern_of):
            check_refused(self, InvalidRecipe(""), function, (("sum", 0, 0),), 1)
            check_refused(self, InvalidRecipe(""), function, (("one",),) * 2001, 1)
        self.assertEqual(recipe_places(THREE, 2), ((0, 1), (0, 2), (1, 2), (0, 1, 2), (0, 1, 2), (0, 1), (0,), ()))
        self.assertEqual(recipe_depth(BENT[:2], 1), 1)


class Tables(unittest.TestCase):
    def test_told(self):
        for seed in range(60):
            k = seed % 3 + 1
            recipe, web = some_recipe(seed, k, 14), some_web(seed, seed % 4, 0.6, (-1, 0, 1, 9))
            places, table = told_lines(k, recipe, web)[-1]
            made = recipe_table(recipe, k, web)
            self.assertEqual(made, {row: number for row, number in table.items() if number != 0})
            self.assertEqual(list(made), sorted(made))
            summed = closed(recipe, k)
            self.assertEqual(number_of(summed, k, web), sum(table.values()))
            self.assertEqual(recipe_table(summed, k, web), {(): sum(table.values())} if sum(table.values()) else {})
            if places != ():
                check_refused(self, InvalidRecipe(""), number_of, recipe, k, web)
                check_refused(self, InvalidRecipe(""), number_of, recipe, k, None)
                check_refused(self, InvalidRecipe(""), pattern_of, recipe, k)

    def test_without_points(self):
        self.assertEqual(recipe_table((("point", 0),), 1, NO_WEB), {})
        self.assertEqual([number_of(THREE, 2, NO_WEB), number_of((("one",),), 1, NO_WEB)], [0, 1])
        self.assertEqual(recipe_table((("one",),), 1, NO_WEB), {(): 1})

    def test_large_numbers(self):
        lines = [("point", 0), ("sum", 0, 0)]
        for at in range(1, 13):
            lines.append(("glue", at, at))
        self.assertEqual(number_of(tuple(lines), 1, full(40)), 40 ** 4096)

    def test_limits(self):
        for k, within, beyond in ((2, 16, 17), (3, 8, 9)):
            self.assertEqual(number_of((("one",),), k, full(within)), 1)
            for function in (number_of, recipe_table):
                check_refused(self, TooMany(4096), function, (("one",),), k, full(beyond))
                check_refused(self, TooMany(4096), function, (("one",),) * 2000, k, full(40))
        # 250 lines times 1,600 rows are 400,000.
        self.assertEqual(number_of((("one",),) * 250, 1, full(40)), 1)
        self.assertEqual(number_of((("one",),) * 97, 2, full(16)), 1)
        for function in (number_of, recipe_table):
            check_refused(self, TooMany(400000), function, (("one",),) * 251, 1, full(40))
            check_refused(self, TooMany(400000), function, (("one",),) * 98, 3, full(8))
            check_refused(self, InvalidWeb(""), function, (("one",),) * 2000, 3, None)
            check_refused(self, InvalidRecipe(""), function, (), 3, None)
        self.assertEqual(number_of((("one",),) * 2000, 2, full(5)), 1)


def told_pattern(recipe):
    """The pattern of a recipe that does not contradict itself: colours and ties by points that stand for others."""
    counter, up, colours, ties = itertools.count(), {}, [], []

    def find(point):
        while up[point] != point:
            point = up[point]
        return point

    def fresh():
        point = next(counter)
        up[point] = point
        return point

    def build(at):
        line = recipe[at]
        if line[0] == "one":
            return {}
        if line[0] == "glue":
            one, other = build(line[1]), build(line[2])
            for place in other:
                if place in one:
                    up[find(other[place])] = find(one[place])
            return {**other, **one}
        if line[0] == "sum":
            return {place: point for place, point in build(line[2]).items() if place != line[1]}
        heads = {line[1]: fresh()}
        if line[0] == "same":
            heads[line[2]] = heads[line[1]]
        if line[0] == "tie":
            heads[line[2]] = fresh()
            ties.append((heads[line[1]], heads[line[2]]))
        if line[0] == "colour":
            colours.append((heads[line[1]], line[2]))
        return heads

    build(len(recipe) - 1)
    points = sorted({find(point) for point in up})
    told, tied, never = {}, set(), False
    for point, colour in colours:
        never = never or told.setdefault(find(point), colour) != colour
    for here, there in ties:
        pair = tuple(sorted((points.index(find(here)), points.index(find(there)))))
        never = never or pair[0] == pair[1]
        tied.add(pair)
    if never:
        return None
    return Web(tuple([told.get(point, -1) for point in points]), tuple(sorted(tied)))


class Patterns(unittest.TestCase):
    def check_same(self, one, other):
        """Whether two patterns are the same, as far as a few counts tell it; small ones wholly."""
        self.assertEqual((sorted(one.colours), sorted(one.degrees), len(one.ties)),
                         (sorted(other.colours), sorted(other.degrees), len(other.ties)))
        if len(one) <= 6:
            self.assertTrue(any(is_same(one, other, images) for images in itertools.permutations(range(len(one)))))

    def test_pattern(self):
        checked = 0
        for seed in range(400):
            k = seed % 3 + 1
            recipe = closed(some_recipe(seed, k, 9), k)
            told = told_pattern(recipe)
            if told is None:
                with self.assertRaises(Refused) as caught:
                    pattern_of(recipe, k)
                word, line = caught.exception.reason
                # The line contradicts itself, and no line that it hangs on does.
                self.assertEqual(word, "never")
                self.assertIsNone(told_pattern(recipe[:line + 1]))
                self.assertEqual(recipe[line][0], "glue")
                self.assertIsNotNone(told_pattern(recipe[:recipe[line][1] + 1]))
                self.assertIsNotNone(told_pattern(recipe[:recipe[line][2] + 1]))
                for web in (RING, full(3), some_web(seed, 4, 0.6, (0, 1, 9))):
                    self.assertEqual(number_of(recipe, k, web), 0)
                continue
            if len(told) > 40:
                check_refused(self, TooMany(40), pattern_of, recipe, k)
                continue
            pattern, bags = pattern_of(recipe, k)
            self.check_same(pattern, told)
            self.assertTrue(is_bags(pattern, bags))
            self.assertLessEqual(bags_width(pattern, bags), k)
            if len(pattern) <= 6:
                for web in (RING, some_web(seed, 4, 0.6, (-1, 0, 1, 9))):
                    self.assertEqual(number_of(recipe, k, web), map_number(pattern, web))
            checked += 1
        self.assertGreater(checked, 100)

    def test_edges(self):
        self.assertEqual(pattern_of((("one",),), 1), (NO_WEB, NO_BAGS))
        pattern, bags = pattern_of(THREE, 2)
        self.assertEqual((pattern.colours, bags_width(pattern, bags)), ((-1,) * 3, 2))
        # Colours meet at places that are one and the same.
        same = (("colour", 0, 4), ("same", 0, 1), ("glue", 0, 1), ("sum", 0, 2), ("sum", 1, 3))
        self.assertEqual(pattern_of(same, 1)[0], Web((4,), ()))
        through = (("same", 0, 1), ("same", 1, 2), ("glue", 0, 1), ("sum", 1, 2), ("tie", 0, 2), ("glue", 3, 4),
                   ("sum", 0, 5), ("sum", 2, 6))
        check_refused(self, Refused(("never", 5)), pattern_of, through, 2)

    def test_never(self):
        unlike = (("colour", 0, 1), ("colour", 0, 2), ("glue", 0, 0), ("glue", 0, 1), ("glue", 3, 2), ("sum", 0, 4))
        check_refused(self, Refused(("never", 3)), pattern_of, unlike, 1)
        self.assertEqual(number_of(unlike, 1, Web((1, 2), ())), 0)
        # Only lines on which the last one hangs are looked at.
        self.assertEqual(pattern_of(unlike + (("sum", 0, 2),), 1)[0], Web((1,), ()))
        both = unlike + (("glue", 1, 0), ("sum", 0, 6), ("glue", 5, 7))
        check_refused(self, Refused(("never", 3)), pattern_of, both, 1)
        check_refused(self, Refused(("never", 6)), pattern_of, both[:8], 1)

    def test_forty(self):
        lines = [("point", 0), ("sum", 0, 0)]
        for _ in range(39):
            lines.append(("glue", len(lines) - 1, 1))
        forty = tuple(lines)
        self.assertEqual(pattern_of(forty, 1)[0], Web((-1,) * 40, ()))
        check_refused(self, TooMany(40), pattern_of, forty + (("glue", 40, 1),), 1)
        # What contradicts itself is told ahead of too many points.
        broken = forty + (("tie", 0, 1), ("same", 0, 1), ("glue", 41, 42), ("sum", 0, 43), ("sum", 1, 44), ("glue", 45, 40))
        check_refused(self, Refused(("never", 43)), pattern_of, broken, 1)

    def test_long_recipes(self):
        lines = [("tie", 0, 1)]
        while len(lines) < 1998:
            lines.append(("glue", 0, len(lines) - 1))
        recipe = tuple(lines) + (("sum", 0, 1997), ("sum", 1, 1998))
        self.assertEqual(len(recipe), 2000)
        self.assertEqual(pattern_of(recipe, 1)[0], Web((-1, -1), ((0, 1),)))
        self.assertEqual(number_of(recipe, 1, RING), 12)


class Along(unittest.TestCase):
    def patterns(self):
        """Patterns with bags that are not too wide for k, and this k."""
        for seed in range(40):
            pattern = some_web(seed, seed % 7, 0.35, (-1, -1, 0, 1))
            bags = bags_along(pattern, some_names(seed, len(pattern)))
            if bags_width(pattern, bags) <= 3:
                yield pattern, bags, max(1, bags_width(pattern, bags))

    def test_recipe_of(self):
        for pattern, bags, least in self.patterns():
            for k in range(least, 4):
                recipe = recipe_of(pattern, bags, k)
                self.assertTrue(is_recipe(k, recipe))
                made = told_pattern(recipe)
                self.assertTrue(any(is_same(pattern, made, images)
                                    for images in itertools.permutations(range(len(pattern)))))
                web = some_web(k, 3, 0.6, (0, 1))
                self.assertEqual(number_of(recipe, k, web), map_number(pattern, web))

    def test_count_along(self):
        for pattern, bags, _ in self.patterns():
            for web in (NO_WEB, DOT, full(3), some_web(7, 4, 0.6, (-1, 0, 1))):
                self.assertEqual(count_along(pattern, bags, web), map_number(pattern, web))

    def test_width_of_just_k(self):
        for k in (1, 2, 3):
            pattern = full(k + 1, -1)
            bags = ((tuple(range(k + 1)),), (None,))
            self.assertEqual(number_of(recipe_of(pattern, bags, k), k, full(4)), map_number(pattern, full(4)))
            if k > 1:
                check_refused(self, InvalidOperation(""), recipe_of, pattern, bags, k - 1)
        check_refused(self, InvalidOperation(""), recipe_of, FORTY, ((tuple(range(40)),), (None,)), 3)

    def test_bags_of_many_kinds(self):
        tied = Web((-1, -1), ((0, 1),))
        for bags in ((((0, 1), (), ()), (None, 0, 1)), (((), (0, 1), ()), (None, 0, 1)), (((0,), (0, 1), (0,)), (1, None, 1)),
                     (((0, 1),) * 100, (None,) + tuple(range(99))), (((0, 1),) * 100, (None,) + (0,) * 99),
                     (((),) * 99 + ((0, 1),), tuple(range(1, 100)) + (None,))):
            self.assertTrue(is_bags(tied, bags))
            self.assertEqual(told_pattern(recipe_of(tied, bags, 1)), tied)
            self.assertEqual(count_along(tied, bags, RING), 12)
        twins = Web((-1, -1, 3), ())
        for bags in ((((), (0,), (1,), (2,)), (None, 0, 0, 0)), (((0,), (1,), (2,)), (None, 0, 1)),
                     (((0,), (1,), (2,), ()), (3, 0, 1, None))):
            made = told_pattern(recipe_of(twins, bags, 1))
            self.assertEqual((sorted(made.colours), made.ties), ([-1, -1, 3], ()))
            self.assertEqual(count_along(twins, bags, Web((3, 3, 0), ())), 18)
        self.assertEqual(recipe_of(NO_WEB, NO_BAGS, 2), (("one",),))
        self.assertEqual(told_pattern(recipe_of(NO_WEB, (((),) * 100, (None,) + (0,) * 99), 1)), NO_WEB)

    def test_forty_points(self):
        for pattern in (path(40), ring(40), FORTY):
            bags = bags_along(pattern, tuple(range(40)))
            recipe = recipe_of(pattern, bags, 2)
            self.assertTrue(is_recipe(2, recipe))
            self.check_big(pattern, recipe, bags)

    def check_big(self, pattern, recipe, bags):
        web = some_web(4, 4, 0.7)
        made = pattern_of(recipe, 2)[0]
        wanted = (sorted(pattern.degrees), len(pieces(pattern)))
        self.assertEqual((sorted(made.degrees), len(pieces(made))), wanted)
        self.assertEqual(number_of(recipe, 2, web), count_along(pattern, bags, web))

    def test_large_counts(self):
        # Maps of a path into a full web: one of n, then one of n - 1, again and again.
        bags = bags_along(path(40), tuple(range(40)))
        self.assertEqual(count_along(path(40), bags, full(40)), 40 * 39 ** 39)
        self.assertEqual(count_along(Web((-1,) * 40, ()), bags_along(FORTY, tuple(range(40))), full(40)), 40 ** 40)

    def test_limit(self):
        for wide, within, beyond in ((2, 40, None), (3, 16, 17), (4, 8, 9), (12, 2, 3), (13, 1, 2)):
            pattern, bags = Web((-1,) * wide, ()), ((tuple(range(wide)),), (None,))
            self.assertEqual(count_along(pattern, bags, full(within)), within ** wide)
            if beyond is not None:
                check_refused(self, TooMany(4096), count_along, pattern, bags, full(beyond))
        self.assertEqual(count_along(FORTY, ((tuple(range(40)),), (None,)), DOT), 1)
        self.assertEqual(count_along(FORTY, ((tuple(range(40)),), (None,)), NO_WEB), 0)
        self.assertEqual(count_along(NO_WEB, NO_BAGS, NO_WEB), 1)

    def test_errors(self):
        bags = ((tuple(range(6)),), (None,))
        for wrong in (None, NO_BAGS, [bags[0], bags[1]], (((0, 1),), (None,)), (bags[0], (0,)), ()):
            check_refused(self, InvalidBags(""), recipe_of, RING, wrong, None)
            check_refused(self, InvalidBags(""), count_along, RING, wrong, None)
            check_refused(self, InvalidWeb(""), recipe_of, RING.ties, wrong, None)
            check_refused(self, InvalidWeb(""), count_along, RING.ties, wrong, None)
        for k in WRONG_K:
            check_refused(self, InvalidNumber(k), recipe_of, RING, bags, k)
        check_refused(self, InvalidWeb(""), count_along, RING, bags, None)
        check_refused(self, InvalidOperation(""), recipe_of, RING, bags, 3)


if __name__ == "__main__":
    unittest.main()
