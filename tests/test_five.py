"""Five are one: the main statements, over several stages; and what holds for all calls."""
import copy
import unittest

from fivealike.carry import carried
from fivealike.colour.alike import alike_answer, for_ever, is_alike_answer, least_apart
from fivealike.colour.codes import classes, code_of, parting_tree
from fivealike.depth import forests
from fivealike.errors import TooMany
from fivealike.game.tokens import game_answer, least_moves
from fivealike.judge import judge
from fivealike.judge.answers import answered
from fivealike.judge.judge import takes
from fivealike.line.lines import is_line_answer, line_answer, row_of_bags
from fivealike.pattern.closure import are_kept, is_unlike_recipe, kept_recipes, type_sums, types_at, unlike_recipe
from fivealike.program.bars import (are_bars, coefficients, is_partial_answer, is_program_answer, partial_answer,
                                    program_answer, turned)
from fivealike.program.point import is_led_on, is_point, led_on, map_point, mixed_point, point_of
from fivealike.same.counts import one_to_one_sum, pattern_answer
from fivealike.same.search import are_symmetries, form_of, is_same_answer, is_tries, same_answer, symmetries_of
from fivealike.say import parting
from fivealike.say.sentences import both, depths, is_true, not_of, shortened
from fivealike.side import keepers
from fivealike.twist.twisted import even_map, twisted
from fivealike.web.maps import map_number
from fivealike.web.webs import Web, beside, opposite, renamed
from fivealike.width.recipes import number_of, recipe_depth
from helper import DOT, NO_WEB, RING, TWO, full, path, ring, some_names, some_web

SPIDER = Web((0,) * 7, ((0, 1), (0, 3), (0, 5), (1, 2), (3, 4), (5, 6)))


def some_pairs():
    """Pairs of webs with few types, and a k."""
    for seed in range(18):
        k = seed % 3 + 1
        one = some_web(seed, seed % 3 + 1, 0.5)
        yield one, some_web(seed + 40, (seed + seed // 5) % 3 + 1, 0.5), k
        yield one, renamed(one, some_names(seed, len(one))), k
    yield from [(RING, TWO, 1), (RING, TWO, 2), (NO_WEB, DOT, 1), (NO_WEB, NO_WEB, 2), (ring(5), path(5), 1), (path(4), path(4), 1),
                (opposite(RING), opposite(TWO), 2), (path(4), beside(path(2), path(2)), 1), (ring(6), ring(6), 2),
                (twisted(full(3), ()), twisted(full(3), ((0, 1),)), 1), (twisted(full(3), ()), twisted(full(3), ((0, 1),)), 2)]


class OneNumber(unittest.TestCase):
    def test_least(self):
        """The least round, moves, and depths of a sentence, a recipe and a forest are one number."""
        found = set()
        for one, other, k in some_pairs():
            least = least_apart(one, other, k)
            found.add(least)
            self.assertEqual(least_moves(one, other, k), least)
            self.assertEqual(parting.least_depth(one, other, k), least)
            sentence = parting.parting_sentence(one, other, k)
            self.assertEqual(sentence is None, least is None)
            try:
                recipe, forest = unlike_recipe(one, other, k, 99), forests.unlike_forest(one, other, k)
            except TooMany:
                continue
            self.assertEqual((recipe is None, forest is None), (least is None, least is None))
            if least is not None:
                self.assertEqual(depths(k, sentence)[-1], least)
                self.assertEqual(recipe_depth(recipe, k), least)
                self.assertEqual(forests.forest_depth(forest[0], k, forest[1:]), least)
        self.assertTrue(found >= {None, 1, 2, 3})

    def test_either_or(self):
        """For ever alike exactly if the program has a point; else bars, a sentence and a spoiler's table."""
        for one, other, k in some_pairs():
            least = least_apart(one, other, k)
            kinds = [for_ever(one, other, k)[0], game_answer(one, other, k, None)[0], program_answer(one, other, k)[0],
                     parting.parting_answer(one, other, k, 99)[0]]
            self.assertEqual(kinds, ["alike", "keeper", "point", "alike"] if least is None else ["apart", "spoiler", "bars", "apart"])
            if least is None:
                self.assertEqual(line_answer(one, other, k)[0], "point")
                for pattern in (path(3), full(3), ring(4)):
                    if forests.least_depth(pattern, k) is not None:
                        self.assertEqual(map_number(pattern, one), map_number(pattern, other))
            if line_answer(one, other, k)[0] == "line":
                self.assertIsNotNone(least)

    def test_forests_up_to_a_depth(self):
        """Alike to the depth r: each pattern with a forest of at most this depth has equally many maps."""
        patterns = [some_web(seed, seed % 4 + 1, 0.6, (-1,)) for seed in range(25)]
        for one, other, k in ((RING, TWO, 2), (path(4), beside(path(2), path(2)), 1), (path(4, 0), path(4, 1), 1), (RING, TWO, 1)):
            least = least_apart(one, other, k)
            for pattern in patterns:
                depth = forests.least_depth(pattern, k)
                if depth is not None and (least is None or depth < least):
                    self.assertEqual(map_number(pattern, one), map_number(pattern, other))

    def test_families(self):
        """Alike webs have families both ways, as no recipe parts them."""
        for one, other, k in some_pairs():
            if least_apart(one, other, k) is None:
                self.assertIsNone(keepers.least_depth(one, other, k))
                self.assertIsNone(keepers.least_depth(other, one, k))

    def test_twisted(self):
        """Alike for ever below the width of the base, apart from there on."""
        for base, width in ((full(3), 2), (SPIDER, 1), (ring(4), 2), (path(3), 1)):
            even, odd = twisted(base, ()), twisted(base, base.ties[:1])
            for k in (1, 2):
                if len(even) ** (k + 1) <= 4096:
                    self.assertEqual(least_apart(even, odd, k) is None, k < width)

    def test_papers(self):
        """Five are one: each claim has a paper of each kind on just one of both sides, and equal codes."""
        for one, other, k in some_pairs():
            least = least_apart(one, other, k)
            for depth in (0, 1, 2, 3, None):
                is_alike = least is None or depth is not None and depth < least
                claim = ("alike", k, depth, (one.colours, one.ties), (other.colours, other.ties))
                for by in ("spoiler", "sentence", "recipe"):
                    try:
                        right, paper = answered(claim, by=by)
                    except TooMany:
                        continue
                    self.assertEqual(right[0], "alike" if is_alike else "apart")
                    self.assertTrue(takes(right, paper) and not takes(judge.opposite(right), paper))
                if depth is not None:
                    self.assertIs(code_of(one, k, depth) == code_of(other, k, depth), is_alike)
                    self.assertEqual(classes((one, other), k, depth), (0, 0) if is_alike else (0, 1))

    def test_not_the_same(self):
        """Webs that are the same are alike for ever; alike ones need not be the same."""
        for one, other, k in some_pairs():
            if same_answer(one, other)[0] == "same":
                self.assertIsNone(least_apart(one, other, k))
                self.assertEqual(renamed(one, form_of(one)), renamed(other, form_of(other)))
        self.assertEqual((least_apart(RING, TWO, 1), same_answer(RING, TWO)[0]), (None, "unlike"))

    def test_untrue(self):
        # Alike for k = 1, not for k = 2; apart, but not at the first round.
        self.assertEqual([least_apart(RING, TWO, k) for k in (1, 2)], [None, 3])
        # Equally many points of each colour and each number of ties, and apart at the round 2.
        one, other = Web((0, 1, 0, 1), ((0, 1), (2, 3))), Web((0, 1, 0, 1), ((0, 2), (1, 3)))
        self.assertEqual((sorted(one.colours), sorted(one.degrees)), (sorted(other.colours), sorted(other.degrees)))
        self.assertEqual([least_apart(one, other, k) for k in (1, 2, 3)], [2, 2, 2])


def empty(value):
    """Empties all dicts and lists within a value."""
    if isinstance(value, dict):
        for worth in list(value.values()):
            empty(worth)
        value.clear()
    elif isinstance(value, (tuple, list)):
        for worth in value:
            empty(worth)
        if isinstance(value, list):
            value.clear()


class Calls(unittest.TestCase):
    def test_arguments_stay(self):
        point, bars = point_of(RING, TWO, 1), program_answer(RING, TWO, 2)[1]
        half = map_point(RING, RING, 1, (1, 2, 3, 4, 5, 0))
        line = line_answer(twisted(SPIDER, ()), twisted(SPIDER, ((0, 1),)), 1)
        kept = copy.deepcopy((point, bars, half, line))
        led_on(RING, TWO, 1, point, ())
        is_led_on(RING, TWO, 1, point, (), (0, 1, 2, 3, 4, 5))
        is_point(RING, TWO, 1, point)
        mixed_point(RING, RING, 1, half, half)
        turned(RING, TWO, 2, bars)
        coefficients(RING, TWO, 2, bars)
        are_bars(RING, TWO, 2, bars)
        is_program_answer(RING, TWO, 2, ("bars", bars))
        is_partial_answer(RING, TWO, 1, ((0, 0),), ("point", point))
        is_line_answer(twisted(SPIDER, ()), twisted(SPIDER, ((0, 1),)), 1, line)
        self.assertEqual((point, bars, half, line), kept)

    def test_results_share_nothing(self):
        for call in (lambda: point_of(RING, TWO, 1), lambda: program_answer(RING, TWO, 2), lambda: types_at(RING, TWO, 2, 1, 1),
                     lambda: partial_answer(RING, TWO, 1, ((0, 0),)), lambda: map_point(RING, RING, 1, tuple(range(6)))):
            first = call()
            wanted = copy.deepcopy(first)
            for part in first:
                if isinstance(part, dict):
                    part.clear()
                elif isinstance(part, tuple):
                    [inner.clear() for inner in part if isinstance(inner, dict)]
            self.assertEqual(call(), wanted)
        half = map_point(RING, RING, 1, tuple(range(6)))
        mixed = mixed_point(RING, RING, 1, half, half)
        mixed[1].clear()
        self.assertNotEqual(half[1], {})

    def test_equal_calls(self):
        calls = (lambda: parting.parting_sentence(RING, TWO, 2), lambda: kept_recipes(RING, TWO, 2, 2, 2), lambda: unlike_recipe(RING, TWO, 2, 3),
                 lambda: keepers.side_answer(ring(5), path(2), 2), lambda: line_answer(RING, TWO, 2), lambda: row_of_bags(RING),
                 lambda: parting.name_line((RING, TWO), 2, 3, (0, 1)), lambda: program_answer(RING, TWO, 2))
        for call in calls:
            self.assertEqual(call(), call())

    def test_later_stages(self):
        """Equal calls have equal results, which share nothing, and change no argument."""
        ladder, point = alike_answer(RING, TWO, 1, 2)[1], for_ever(RING, TWO, 1)[1]
        bars = program_answer(RING, TWO, 2)[1]
        claim = ("alike", 2, 3, (RING.colours, RING.ties), (TWO.colours, TWO.ties))
        tries = same_answer(RING, TWO)
        kept = copy.deepcopy((ladder, point, bars, tries))
        calls = (lambda: carried.carried_ladder("beside", 1, RING, TWO, ladder, RING, TWO, ladder),
                 lambda: carried.carried_table("times", 1, RING, TWO, point, DOT, DOT, for_ever(DOT, DOT, 1)[1]),
                 lambda: carried.cancelled("beside", 1, RING, TWO, NO_WEB, ladder), lambda: carried.recoloured_ladder(1, RING, TWO, 2, 1, {1: 4}),
                 lambda: carried.pieces_of(unlike_recipe(RING, TWO, 2, 3), 2), lambda: even_map(SPIDER, SPIDER.ties[:2], ()), lambda: same_answer(RING, TWO),
                 lambda: symmetries_of(path(5)), lambda: form_of(TWO), lambda: one_to_one_sum(path(4)), lambda: pattern_answer(RING, TWO), lambda: code_of(RING, 2, 3),
                 lambda: parting_tree((RING, TWO, DOT), 2), lambda: answered(claim), lambda: answered(claim, by="recipe"), lambda: answered(claim, by="sentence"))
        for call in calls:
            first = call()
            wanted = copy.deepcopy(first)
            empty(first)
            self.assertEqual(call(), wanted)
        for told in (("alike", ladder), ("apart", ladder), ("bars", bars), tries):
            for paper in (told, told[1]):
                takes(claim, paper)
                is_tries(RING, TWO, paper)
                is_same_answer(RING, TWO, paper)
                are_symmetries(RING, (told, paper))
        self.assertEqual((ladder, point, bars, tries), kept)

    def test_papers_of_other_makers(self):
        """What one stage tells is taken where another one asks for it."""
        sentence = parting.parting_sentence(RING, TWO, 2)
        recipe = unlike_recipe(RING, TWO, 2, 3)
        pattern, above, labels = forests.unlike_forest(RING, TWO, 2)
        self.assertTrue(parting.is_parting_sentence(TWO, RING, 2, shortened(2, not_of(2, both(2, sentence, sentence)))))
        self.assertTrue(is_true(2, sentence, RING))
        made = forests.recipe_of_forest(pattern, 2, (above, labels))
        for told in (recipe, made):
            self.assertTrue(is_unlike_recipe(RING, TWO, 2, 3, told))
            self.assertNotEqual(number_of(told, 2, RING), number_of(told, 2, TWO))
        self.assertTrue(forests.is_unlike_forest(RING, TWO, 2, forests.forest_of(recipe, 2)))
        self.assertTrue(is_alike_answer(RING, TWO, 2, 2, ("alike", parting.parting_answer(RING, TWO, 2, 2)[1])))
        self.assertEqual(alike_answer(RING, TWO, 2, 3), ("apart", 3))
        kept = kept_recipes(RING, TWO, 2, 1, 2)
        self.assertTrue(are_kept(RING, TWO, 2, 1, 2, kept) and len(type_sums(RING, TWO, 2, 1, 2, kept)) == 2)
        self.assertTrue(is_line_answer(RING, TWO, 1, program_answer(RING, TWO, 1)))
        self.assertFalse(is_program_answer(twisted(SPIDER, ()), twisted(SPIDER, ((0, 1),)), 1,
                                           line_answer(twisted(SPIDER, ()), twisted(SPIDER, ((0, 1),)), 1)))


if __name__ == "__main__":
    unittest.main()
