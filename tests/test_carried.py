"""Stage 16: what is carried along."""
import itertools
import unittest

from fivealike.carry import carried
from fivealike.carry.carried import (cancelled, carried_ladder, carried_table, made_webs, piece_apart, pieces_of,
                                     recoloured_ladder)
from fivealike.colour.alike import alike_answer, are_alike, for_ever, is_alike_answer, is_ladder, is_table, least_apart
from fivealike.colour.rounds import names_at
from fivealike.errors import (InvalidNumber, InvalidOperation, InvalidRecipe, InvalidTable, InvalidWeb, Refused, TooMany,
                              UnknownName)
from fivealike.game.tokens import is_game_answer, is_pairing_for, pairing_for
from fivealike.web.maps import map_number, times
from fivealike.web.webs import Web, beside, joined, opposite, pieces, recoloured, renamed
from fivealike.width.recipes import is_recipe, number_of, pattern_of, recipe_depth
from helper import DOT, FORTY, NO_WEB, RING, STRANGE, TWO, check_refused, full, path, some_names, some_web
from told import rows as all_rows

PAIR, LOOSE = Web((0, 0), ((0, 1),)), Web((0, 0), ())
MAKERS = {"beside": beside, "joined": joined, "times": times}
EDGES = (("tie", 0, 1), ("sum", 1, 0), ("sum", 0, 1), ("glue", 2, 2))
THREE = (("tie", 0, 1), ("tie", 0, 2), ("tie", 1, 2), ("glue", 0, 1), ("glue", 2, 3), ("sum", 2, 4), ("sum", 1, 5), ("sum", 0, 6))
WRONG_K = (0, 4, -1, True, None, "1", 10 ** 99)
WRONG_WORDS = STRANGE + ("Beside", "beside ", "time", ("beside",), b"beside")


def ladder(one, other, k, depth):
    kind, told = alike_answer(one, other, k, depth)
    assert kind == "alike"
    return told


def table(one, other, k):
    kind, told = for_ever(one, other, k)
    assert kind == "alike"
    return told


def finer_ladder(one, k, depth):
    """A ladder of a web and itself that parts all rows of one point, though longer and shorter ones little."""
    names = names_at((one,), k, 99)[0]
    own = {row: 10 ** 40 + row[0] if len(row) == 1 else -name for row, name in names.items()}
    return ((own, dict(own)),) * (depth + 1)


def alike_pairs():
    """Pairs of webs, a k and a depth to which they are alike, up to 3."""
    for seed in range(12):
        web = some_web(seed, seed % 4 + 1, 0.5, (-1, 0) if seed % 3 == 0 else (0,))
        yield web, renamed(web, some_names(seed, len(web))), seed % 3 + 1, seed % 4
    yield from [(RING, TWO, 1, 3), (RING, TWO, 2, 2), (NO_WEB, NO_WEB, 3, 2), (DOT, PAIR, 2, 0), (PAIR, LOOSE, 3, 1),
                (path(4), beside(path(2), path(2)), 1, 1), (full(3), Web((0,) * 3, ()), 2, 1), (DOT, DOT, 1, 99)]


class Made(unittest.TestCase):
    def test_words(self):
        self.assertEqual(carried.WORDS, ("beside", "joined", "times"))
        for word, maker in MAKERS.items():
            self.assertEqual(made_webs(word, RING, path(2), path(3), TWO), (maker(RING, path(3)), maker(path(2), TWO)))
            self.assertEqual(made_webs(word, NO_WEB, DOT, NO_WEB, NO_WEB), (maker(NO_WEB, NO_WEB), maker(DOT, NO_WEB)))

    def test_refusals(self):
        for word in WRONG_WORDS:
            check_refused(self, UnknownName(word), made_webs, word, None, None, None, None)
        for at in range(4):
            for web in STRANGE:
                webs = [FORTY] * 4
                webs[at] = web
                check_refused(self, InvalidWeb(""), made_webs, "times", *webs)
        for word in ("beside", "joined"):
            check_refused(self, TooMany(40), made_webs, word, FORTY, DOT, DOT, DOT)
            check_refused(self, TooMany(40), made_webs, word, DOT, FORTY, DOT, DOT)
            self.assertEqual([len(web) for web in made_webs(word, path(39), DOT, DOT, path(39))], [40, 40])
        check_refused(self, TooMany(40), made_webs, "times", path(7), DOT, path(6), DOT)
        self.assertEqual(len(made_webs("times", path(8), DOT, path(5), DOT)[0]), 40)


class Ladders(unittest.TestCase):
    def test_both_ways(self):
        pairs = list(alike_pairs())
        for at, (one, other, k, depth) in enumerate(pairs):
            first, last, _, most = pairs[(at + 5) % len(pairs)]
            if not are_alike(first, last, k, min(depth, most)):
                continue
            depth = min(depth, most)
            for word in carried.WORDS:
                made = made_webs(word, one, other, first, last)
                if max(len(web) for web in made) ** (k + 1) > 1300:
                    continue
                told = carried_ladder(word, k, one, other, ladder(one, other, k, depth), first, last, ladder(first, last, k, depth))
                self.assertIs(is_ladder(made[0], made[1], k, depth, told), True)
                self.assertTrue(is_alike_answer(made[0], made[1], k, depth, ("alike", told)))
                self.assertTrue(is_game_answer(made[0], made[1], k, depth, ("keeper", told)))
            self.assertTrue(are_alike(opposite(one), opposite(other), k, depth))

    def test_depths(self):
        for depth in (0, 1, 99):
            told = carried_ladder("joined", 1, RING, TWO, ladder(RING, TWO, 1, depth), DOT, DOT, ladder(DOT, DOT, 1, depth))
            self.assertEqual(len(told), depth + 1)
            self.assertTrue(is_ladder(joined(RING, DOT), joined(TWO, DOT), 1, depth, told))

    def test_ladders_of_other_makers(self):
        """Integers of any length, and such that tell less of parts of rows than names do."""
        for k in (1, 2):
            web = path(3)
            more = finer_ladder(web, k, 2)
            self.assertTrue(is_ladder(web, web, k, 2, more))
            for word in carried.WORDS:
                told = carried_ladder(word, k, web, web, more, DOT, DOT, finer_ladder(DOT, k, 2))
                made = MAKERS[word](web, DOT)
                self.assertTrue(is_ladder(made, made, k, 2, told))
                told = carried_table(word, k, web, web, more[0], web, web, more[1])
                made = MAKERS[word](web, web)
                self.assertTrue(is_table(made, made, k, told))

    def test_tables(self):
        pairs = [(RING, TWO, 1), (path(3), renamed(path(3), (1, 0, 2)), 2), (NO_WEB, NO_WEB, 1), (DOT, DOT, 3)]
        for (one, other, k), (first, last, _) in itertools.product(pairs, repeat=2):
            if least_apart(first, last, k) is not None:
                continue
            for word in carried.WORDS:
                made = made_webs(word, one, other, first, last)
                if len(made[0]) ** (k + 1) > 1300:
                    continue
                told = carried_table(word, k, one, other, table(one, other, k), first, last, table(first, last, k))
                self.assertIs(is_table(made[0], made[1], k, told), True)
                self.assertTrue(is_game_answer(made[0], made[1], k, None, ("keeper", told)))
                if len(made[0]) > 0:
                    pairing = pairing_for(made[0], made[1], k, told, None, ((), ()))
                    self.assertTrue(is_pairing_for(made[0], made[1], k, told, None, ((), ()), pairing))

    def test_untrue(self):
        # Two alike webs, and a point left out of each so that they are apart, whichever points these are.
        self.assertIsNone(least_apart(RING, TWO, 1))
        self.assertIsNotNone(least_apart(path(5), beside(full(3), path(2)), 1))
        # Products with a third web that are alike, of webs that are not.
        self.assertIsNone(least_apart(times(PAIR, LOOSE), times(LOOSE, LOOSE), 2))
        self.assertIsNotNone(least_apart(PAIR, LOOSE, 2))


class LadderRefusals(unittest.TestCase):
    LADDER = ladder(RING, TWO, 1, 1)
    TABLE = table(RING, TWO, 1)

    def test_sequence(self):
        for function, paper in ((carried_ladder, self.LADDER), (carried_table, self.TABLE)):
            right = ["beside", 1, RING, TWO, paper, RING, TWO, paper]
            self.assertEqual(type(function(*right)), tuple)
            wrong = [("plus",), WRONG_K, STRANGE, STRANGE, STRANGE, STRANGE, STRANGE, STRANGE]
            errors = [None, None, InvalidWeb(""), InvalidWeb(""), InvalidTable(""), InvalidWeb(""), InvalidWeb(""), InvalidTable("")]
            for at in range(8):
                for value in wrong[at]:
                    error = [UnknownName(value), InvalidNumber(value)][at] if at < 2 else errors[at]
                    # All that comes behind is wrong, too.
                    values = right[:at] + [value] + [10 ** 99] * (7 - at)
                    check_refused(self, error, function, *values)
                    check_refused(self, error, function, *right[:at], value, *right[at + 1:])

    def test_words(self):
        for word in WRONG_WORDS:
            check_refused(self, UnknownName(word), carried_ladder, word, 0, *[None] * 6)
            check_refused(self, UnknownName(word), carried_table, word, 0, *[None] * 6)
            check_refused(self, UnknownName(word), cancelled, word, 0, *[None] * 4)

    def test_wrong_ladders(self):
        one = self.LADDER
        bent = ({**one[0][0], (3,): 77}, one[0][1])
        true = ({**one[0][0], (): False}, {**one[0][1], (): False})
        self.assertEqual(true[0], {**one[0][0], (): 0})
        for value in ((), (bent, one[1]), (true, one[1]), one[:1] + (one[1][0],), list(one), self.TABLE, (one[0][::-1], one[1], None),
                      (one[0],) * 101, ladder(RING, RING, 1, 1)[:1] + (({}, {}),), ladder(DOT, DOT, 1, 1)):
            check_refused(self, InvalidTable(""), carried_ladder, "times", 1, RING, TWO, value, RING, TWO, one)
            check_refused(self, InvalidTable(""), carried_ladder, "times", 1, RING, TWO, one, RING, TWO, value)
        for value in (one, bent, true, self.TABLE[:1], self.TABLE[::-1] + ({},), [self.TABLE]):
            check_refused(self, InvalidTable(""), carried_table, "times", 1, RING, TWO, value, RING, TWO, self.TABLE)
            check_refused(self, InvalidTable(""), carried_table, "times", 1, RING, TWO, self.TABLE, RING, TWO, value)

    def test_then(self):
        one = path(7)
        # Unlike depths come ahead of too many points, and these ahead of too many rows.
        check_refused(self, InvalidOperation(""), carried_ladder, "times", 2, one, one, ladder(one, one, 2, 1), one, one, ladder(one, one, 2, 2))
        check_refused(self, TooMany(40), carried_ladder, "times", 2, one, one, ladder(one, one, 2, 1), one, one, ladder(one, one, 2, 1))
        check_refused(self, TooMany(40), carried_table, "times", 2, one, one, table(one, one, 2), one, one, table(one, one, 2))
        for k, most in ((2, 16), (3, 8)):
            for many, right in ((most, True), (most + 1, False)):
                one, first = path(many - 2), path(2)
                values = ["beside", k, one, one, ladder(one, one, k, 0), first, first, ladder(first, first, k, 0)]
                if right:
                    self.assertEqual(len(carried_ladder(*values)), 1)
                else:
                    check_refused(self, TooMany(4096), carried_ladder, *values)
                    values = ["joined", k, one, one, table(one, one, k), first, first, table(first, first, k)]
                    check_refused(self, TooMany(4096), carried_table, *values)


class Recoloured(unittest.TestCase):
    def test_ladders(self):
        for one, other, k, depth in alike_pairs():
            if depth > 3:
                continue
            for at in range(depth + 1):
                names = names_at((one, other), k, at)
                lone = sorted({own[row] for own in names for row in own if len(row) == 1})
                for colours in ({name: -1 for name in lone}, {name: (3 * name) % 11 - 1 for name in lone}):
                    made, goal, told = recoloured_ladder(k, one, other, depth, at, colours)
                    for web, new, own in ((one, made, names[0]), (other, goal, names[1])):
                        self.assertEqual(new, recoloured(web, tuple([colours[own[point,]] for point in range(len(web))])))
                    self.assertEqual(len(told), depth - at + 1)
                    self.assertIs(is_ladder(made, goal, k, depth - at, told), True)

    def test_apart_beyond(self):
        one, other = path(4), Web((0,) * 4, ((0, 1), (0, 2), (0, 3)))
        self.assertEqual(least_apart(one, other, 1), 2)
        colours = {name: 5 for name in names_at((one, other), 1, 1)[0].values() if name > 0}
        colours.update({name: 5 for name in names_at((one, other), 1, 1)[1].values() if name > 0})
        self.assertEqual(len(recoloured_ladder(1, one, other, 1, 1, colours)[2]), 1)
        check_refused(self, InvalidOperation(""), recoloured_ladder, 1, one, other, 2, 1, colours)
        # At a round behind that at which the webs are apart there are more names.
        late = sorted({own[row] for own in names_at((one, other), 1, 3) for row in own if row})
        self.assertNotEqual(late, sorted(colours))
        check_refused(self, InvalidOperation(""), recoloured_ladder, 1, one, other, 3, 3, {name: 0 for name in late})

    def test_refusals(self):
        right = {1: 0}
        self.assertEqual(recoloured_ladder(1, RING, TWO, 2, 2, right)[0], RING)
        for value in (right, {1: 9}, {1: -1}):
            self.assertEqual(recoloured_ladder(1, RING, TWO, 2, 0, value)[1].colours, (value[1],) * 6)
        for value in STRANGE + ({}, {1: 0, 2: 0}, {0: 0, 1: 0}, {2: 0}, {1: 10}, {1: -2}, {1: True}, {True: 0}, {"1": 0}, {(1,): 0},
                                {1: None}, {1: 10 ** 99}, ((1, 0),), [0, 0], {1: 0, None: 0}):
            check_refused(self, InvalidOperation(""), recoloured_ladder, 1, RING, TWO, 2, 1, value)
        self.assertEqual(recoloured_ladder(1, NO_WEB, NO_WEB, 0, 0, {}), (NO_WEB, NO_WEB, (({(): 0}, {(): 0}),)))
        check_refused(self, InvalidOperation(""), recoloured_ladder, 1, NO_WEB, NO_WEB, 0, 0, {1: 0})
        for k in WRONG_K:
            check_refused(self, InvalidNumber(k), recoloured_ladder, k, None, None, None, None, None)
        for web in STRANGE:
            check_refused(self, InvalidWeb(""), recoloured_ladder, 3, web, None, None, None, None)
            check_refused(self, InvalidWeb(""), recoloured_ladder, 3, FORTY, web, None, None, None)
        for depth in (-1, 100, True, None, 10 ** 99):
            check_refused(self, InvalidNumber(depth), recoloured_ladder, 3, FORTY, FORTY, depth, None, None)
        for at in (-1, 3, True, None, "0", 10 ** 99):
            check_refused(self, InvalidNumber(at), recoloured_ladder, 3, FORTY, FORTY, 2, at, None)
        check_refused(self, TooMany(4096), recoloured_ladder, 3, FORTY, FORTY, 2, 2, None)
        check_refused(self, TooMany(4096), recoloured_ladder, 2, DOT, path(17), 2, 2, None)
        # The colours come ahead of whether both are apart.
        check_refused(self, InvalidOperation(""), recoloured_ladder, 1, DOT, PAIR, 1, 0, None)
        check_refused(self, InvalidOperation(""), recoloured_ladder, 1, DOT, PAIR, 1, 0, {1: 0})


class Cancelled(unittest.TestCase):
    def test_ladders(self):
        for one, other, k, depth in alike_pairs():
            for third in (NO_WEB, DOT, path(2), Web((4, -1), ())):
                for word in ("beside", "joined"):
                    made = made_webs(word, one, other, third, third)
                    if len(made[0]) ** (k + 1) <= 700 and depth < 9:
                        told = cancelled(word, k, one, other, third, ladder(made[0], made[1], k, depth))
                        self.assertEqual(len(told), depth + 1)
                        self.assertIs(is_ladder(one, other, k, depth, told), True)

    def test_refusals(self):
        one = ladder(RING, TWO, 1, 2)
        for k in WRONG_K:
            check_refused(self, InvalidOperation(""), cancelled, "times", k, None, None, None, None)
            check_refused(self, InvalidNumber(k), cancelled, "beside", k, None, None, None, None)
        for at in range(3):
            for web in STRANGE:
                webs = [FORTY] * at + [web] + [None] * (2 - at)
                check_refused(self, InvalidWeb(""), cancelled, "joined", 1, *webs, None)
        check_refused(self, TooMany(40), cancelled, "beside", 1, FORTY, FORTY, DOT, None)
        check_refused(self, TooMany(40), cancelled, "joined", 3, DOT, FORTY, DOT, None)
        # A ladder of both webs themselves is none of what is made of them.
        for value in STRANGE + (one, ladder(beside(RING, DOT), beside(RING, DOT), 1, 2)[0]):
            check_refused(self, InvalidTable(""), cancelled, "beside", 1, RING, TWO, DOT, value)
        made = ladder(beside(RING, DOT), beside(TWO, DOT), 1, 2)
        self.assertTrue(is_ladder(RING, TWO, 1, 2, cancelled("beside", 1, RING, TWO, DOT, made)))
        # Webs of 8 and 9 points have 17 together: what is a ladder of these comes ahead of the rows limit.
        check_refused(self, InvalidTable(""), cancelled, "beside", 2, path(8), path(8), path(9), ladder(path(8), path(8), 2, 0))
        rows = {row: at for at, row in enumerate(all_rows(beside(path(8), path(9)), 2))}
        check_refused(self, TooMany(4096), cancelled, "beside", 2, path(8), path(8), path(9), ((rows, dict(rows)),))


def some_recipes():
    """Recipes, a k, and how many pieces their patterns have."""
    lone = (("point", 0), ("sum", 0, 0))
    yield from [((("one",),), 1, 0), (lone, 1, 1), (EDGES, 1, 2), (THREE, 2, 1), (THREE + (("glue", 7, 7), ("glue", 8, 7)), 2, 3),
                ((("one",), ("glue", 0, 0), ("glue", 1, 0)), 3, 0), ((("colour", 1, 4), ("sum", 1, 0)), 1, 1),
                # Points that are no longer at places, and places that are one point.
                ((("point", 0), ("point", 1), ("glue", 0, 1), ("sum", 0, 2), ("sum", 1, 3)), 1, 2),
                ((("same", 0, 1), ("colour", 0, 3), ("tie", 1, 2), ("glue", 0, 1), ("glue", 3, 2), ("sum", 0, 4), ("sum", 2, 5), ("sum", 1, 6)), 2, 1),
                ((("tie", 0, 1), ("tie", 2, 3), ("glue", 0, 1), ("sum", 0, 2), ("sum", 2, 3), ("tie", 1, 3), ("glue", 4, 5), ("sum", 1, 6), ("sum", 3, 7)), 3, 1),
                ((("tie", 0, 1), ("tie", 2, 3), ("glue", 0, 1), ("sum", 0, 2), ("sum", 2, 3), ("glue", 4, 4), ("sum", 1, 5), ("sum", 3, 6)), 3, 2),
                ((("tie", 0, 1), ("sum", 0, 0), ("sum", 1, 1), ("point", 0), ("glue", 2, 3), ("sum", 0, 4), ("tie", 0, 1)) + (("glue", 5, 2),), 1, 3),
                ((("tie", 0, 1), ("sum", 1, 0), ("glue", 1, 1), ("sum", 0, 2), ("glue", 3, 3), ("tie", 0, 1), ("sum", 1, 5), ("sum", 0, 6), ("glue", 7, 4)), 1, 3)]


def moved(recipe, by):
    """The lines of a recipe with the indices of others moved."""
    lines = []
    for line in recipe:
        if line[0] == "glue":
            line = ("glue", line[1] + by, line[2] + by)
        elif line[0] == "sum":
            line = ("sum", line[1], line[2] + by)
        lines.append(line)
    return tuple(lines)


class Pieces(unittest.TestCase):
    WEBS = (RING, TWO, NO_WEB, DOT, Web((3, 3, 4, 0), ((0, 1), (0, 2), (1, 2), (2, 3))), path(4, 2), full(4, 3))

    def test_numbers_multiply(self):
        for recipe, k, many in some_recipes():
            told = pieces_of(recipe, k)
            self.assertEqual(len(told), many)
            self.assertEqual(len(pieces(pattern_of(recipe, k)[0])), many)
            for piece in told:
                self.assertTrue(is_recipe(k, piece))
                self.assertEqual(len(pieces(pattern_of(piece, k)[0])), 1)
                self.assertLessEqual(recipe_depth(piece, k), recipe_depth(recipe, k))
            for web in self.WEBS:
                number = 1
                for piece in told:
                    number *= number_of(piece, k, web)
                self.assertEqual(number, number_of(recipe, k, web))

    def test_many_lines(self):
        """A recipe of many lines, each of which uses two loose points anew, has pieces of no more lines."""
        lines = [("point", 0), ("point", 1), ("glue", 0, 1), ("tie", 0, 1)]
        last = 2
        tied = 3
        for _ in range(600):
            lines.append(("glue", tied, 3))
            tied = len(lines) - 1
            lines.append(("glue", 2, tied))
            lines.append(("glue", last, len(lines) - 1))
            last = len(lines) - 1
        recipe = tuple(lines + [("sum", 0, last), ("sum", 1, len(lines))])
        self.assertTrue(is_recipe(1, recipe) and len(recipe) > 1800)
        told, = pieces_of(recipe, 1)
        self.assertLessEqual(len(told), len(recipe))
        for web in (DOT, PAIR, Web((0,) * 3, ((0, 1), (1, 2)))):
            self.assertEqual(number_of(told, 1, web), number_of(recipe, 1, web))
        self.assertEqual(pattern_of(told, 1)[0], Web((-1, -1), ((0, 1),)))

    def test_pieces_on_webs(self):
        """Beside one another numbers of pieces add up, on products those of all patterns multiply."""
        for recipe, k, _ in some_recipes():
            for one, other in ((DOT, PAIR), (path(2), full(3)), (PAIR, Web((4, 3), ((0, 1),)))):
                for piece in pieces_of(recipe, k):
                    self.assertEqual(number_of(piece, k, beside(one, other)), number_of(piece, k, one) + number_of(piece, k, other))
                self.assertEqual(number_of(recipe, k, times(one, other)), number_of(recipe, k, one) * number_of(recipe, k, other))

    def test_apart(self):
        walks = (("tie", 0, 1), ("tie", 1, 2), ("glue", 0, 1), ("sum", 1, 2), ("glue", 3, 3), ("sum", 2, 4), ("sum", 0, 5))
        both = THREE + moved(walks, len(THREE)) + (("glue", 7, len(THREE) + len(walks) - 1),)
        self.assertEqual(len(pieces_of(both, 2)), 2)
        for recipe, k, one, other in ((both, 2, RING, TWO), (THREE, 2, RING, TWO), (EDGES, 1, PAIR, path(3)), (both, 2, full(4), path(5))):
            self.assertNotEqual(number_of(recipe, k, one), number_of(recipe, k, other))
            piece = piece_apart(recipe, k, one, other)
            pattern = pattern_of(piece, k)[0]
            self.assertEqual(len(pieces(pattern)), 1)
            self.assertNotEqual(number_of(piece, k, one), number_of(piece, k, other))
            self.assertNotEqual(map_number(pattern, one), map_number(pattern, other))

    def test_refusals(self):
        opened = (("point", 0),)
        never = (("tie", 0, 1), ("same", 0, 1), ("glue", 0, 1), ("sum", 0, 2), ("sum", 1, 3))
        doubling = [("point", 0), ("sum", 0, 0)] + [("glue", at, at) for at in range(1, 7)]
        for k in WRONG_K:
            check_refused(self, InvalidNumber(k), pieces_of, None, k)
            check_refused(self, InvalidNumber(k), piece_apart, None, k, None, None)
        for recipe in STRANGE + (opened, THREE[:7], EDGES[:3] + (("glue", 2, 3),), (("colour", 0, -1), ("sum", 0, 0))):
            check_refused(self, InvalidRecipe(""), pieces_of, recipe, 2)
            check_refused(self, InvalidRecipe(""), piece_apart, recipe, 2, None, None)
        check_refused(self, InvalidRecipe(""), pieces_of, THREE, 1)
        check_refused(self, Refused(("never", 2)), pieces_of, never, 1)
        check_refused(self, TooMany(40), pieces_of, tuple(doubling), 1)
        self.assertEqual(len(pieces_of(tuple(doubling[:7]), 1)), 32)
        check_refused(self, Refused(("never", 2)), pieces_of, never + (("point", 0), ("sum", 0, 5)) + tuple([("glue", at, at) for at in range(6, 12)]) + (("glue", 12, 4),), 1)
        for web in STRANGE:
            check_refused(self, InvalidWeb(""), piece_apart, THREE, 2, web, None)
            check_refused(self, InvalidWeb(""), piece_apart, THREE, 2, FORTY, web)
        check_refused(self, TooMany(4096), piece_apart, THREE, 2, FORTY, DOT)
        check_refused(self, TooMany(4096), piece_apart, EDGES + (("one",),) * 1500, 2, path(8), path(17))
        check_refused(self, TooMany(400000), piece_apart, (("one",),) * 1000, 2, DOT, path(8))
        check_refused(self, TooMany(400000), piece_apart, (("one",),) * 100, 2, path(16), DOT)
        check_refused(self, InvalidOperation(""), piece_apart, (("one",),) * 97, 2, path(16), DOT)
        # Equal numbers come ahead of what the pattern is.
        check_refused(self, InvalidOperation(""), piece_apart, never, 1, RING, TWO)
        check_refused(self, InvalidOperation(""), piece_apart, EDGES, 1, RING, TWO)
        check_refused(self, TooMany(40), piece_apart, tuple(doubling), 1, DOT, PAIR)


if __name__ == "__main__":
    unittest.main()
