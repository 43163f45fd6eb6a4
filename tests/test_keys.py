"""The keys of all dicts that are returned: ascending [0.1], or shorter rows ahead where the document says so."""
import itertools
import unittest

from fivealike.carry.carried import cancelled, carried_ladder, carried_table, made_webs, recoloured_ladder
from fivealike.colour.alike import alike_answer, for_ever, least_apart
from fivealike.colour.rounds import names_at, stable_names
from fivealike.errors import TooMany
from fivealike.game.tokens import game_answer, is_game_answer
from fivealike.judge.answers import answered
from fivealike.judge.judge import takes
from fivealike.line.lines import line_answer
from fivealike.pattern.closure import types_at
from fivealike.program.bars import coefficients, partial_answer, program_answer, turned
from fivealike.program.point import map_point, mixed_point, partials, point_of
from fivealike.same.search import led_answer, same_answer, symmetries_of
from fivealike.say.parting import parting_answer
from fivealike.width.recipes import recipe_table
from fivealike.web.webs import Web, beside, renamed
from helper import DOT, NO_WEB, RING, TWO, full, path, ring, some_names, some_web, twisted

FIVES = (some_web(4, 5, 0.5), some_web(5, 5, 0.5))
PAIRS = ((RING, TWO), (TWO, RING), (RING, ring(6)), (DOT, NO_WEB), (NO_WEB, DOT), (NO_WEB, NO_WEB), (path(4), path(4, 1)), FIVES,
         (FIVES[0], renamed(FIVES[0], some_names(2, 5))), (path(4), beside(full(3), DOT)), (Web((-1, 3, 0), ((0, 2),)), Web((3, 0, -1), ((1, 2),))))
SMALL = [pair for pair in PAIRS if max(len(pair[0]), len(pair[1])) <= 5] + [(full(3), path(3)), (path(3), Web((0,) * 3, ((0, 1), (0, 2))))]
LARGE = ((twisted(full(4), ()), twisted(full(4), ((0, 1),))), (ring(12), beside(ring(6), ring(6))))


def dicts_in(value):
    """All dicts in a value that is built of tuples and dicts."""
    if isinstance(value, tuple):
        return [found for member in value for found in dicts_in(member)]
    if isinstance(value, dict):
        return [value] + [found for member in value.values() for found in dicts_in(member)]
    return []


def rows_first(rows):
    """The sequence in which shorter rows stand ahead."""
    return sorted(rows, key=lambda row: (len(row), row))


class Ascending(unittest.TestCase):
    def check_ascending(self, value, least=1):
        """Fails unless there are so many dicts, all with keys in Python's order."""
        found = dicts_in(value)
        self.assertGreaterEqual(len(found), least)
        for told in found:
            self.assertEqual(list(told), sorted(told))

    def test_spoilers(self):
        unlike = 0
        for (one, other), k in list(itertools.product(PAIRS, (1, 2, 3))) + [(LARGE[1], 1)]:
            least = least_apart(one, other, k)
            for depth in (None, 99, least) if least is not None else ():
                word, table = answer = game_answer(one, other, k, depth)
                self.assertEqual(word, "spoiler")
                self.assertTrue(is_game_answer(one, other, k, depth, answer))
                self.check_ascending(table)
                unlike += list(table) != sorted(table, key=lambda position: (len(position[0]), position))
        # There are tables in which shorter rows ahead would be another sequence.
        self.assertGreater(unlike, 0)

    def test_answered(self):
        told = [("alike", k, r, one, other) for one, other in PAIRS for k in (1, 2, 3) for r in (1, 3, None)]
        told += [("solved", k, one, other) for one, other in SMALL for k in (1, 2)]
        told += [("same", one, other) for one, other in PAIRS + LARGE]
        seen = set()
        for claim in told:
            claim = tuple([(member.colours, member.ties) if isinstance(member, Web) else member for member in claim])
            for by in ("spoiler", "sentence", "recipe") if claim[0] == "alike" else ("spoiler",):
                try:
                    right, paper = answered(claim, by=by)
                except TooMany:
                    continue
                self.assertTrue(takes(right, paper))
                # Ladders and tables have their own sequence.
                if right[0] != "alike":
                    self.check_ascending(paper, 0)
                seen.add((right[0], dicts_in(paper) != []))
        self.assertLessEqual({("apart", True), ("apart", False), ("alike", True), ("solved", True), ("barred", True), ("same", False),
                              ("unlike", True)}, seen)

    def test_tables_and_types(self):
        for web in (RING, TWO, NO_WEB, FIVES[0]):
            for recipe in ((("tie", 0, 1),), (("same", 0, 2),), (("tie", 0, 2), ("tie", 1, 2), ("glue", 0, 1)), (("one",),)):
                self.check_ascending(recipe_table(recipe, 2, web))
        for one, other in PAIRS:
            for k, m, depth in ((1, 2, 1), (2, 1, 0), (2, 3, 2), (3, 0, 1)):
                self.check_ascending(types_at(one, other, k, m, depth), 2)

    def test_points_and_bars(self):
        words = []
        for (one, other), k in itertools.product(SMALL, (1, 2)):
            answer = program_answer(one, other, k)
            words.append(answer[0])
            self.check_ascending(answer)
            self.check_ascending(line_answer(one, other, k), 0)
            if answer[0] == "bars":
                self.check_ascending(coefficients(one, other, k, answer[1]))
                self.check_ascending(turned(one, other, k, answer[1]))
            else:
                point = point_of(one, other, k)
                self.check_ascending(point)
                self.check_ascending(mixed_point(one, other, k, point, answer[1]))
            for partial in partials(one, other, 1)[:6]:
                answer = partial_answer(one, other, k, partial)
                words.append(answer[0])
                self.check_ascending(answer)
        self.assertEqual(set(words), {"bars", "point", "refused"})
        names = some_names(8, 4)
        for images in (names, (0, 1, 2, 3)):
            self.check_ascending(map_point(full(4), full(4), 2, images))
        self.check_ascending(line_answer(RING, TWO, 1))

    def test_tries(self):
        for one, other in PAIRS + LARGE:
            word, paper = same_answer(one, other)
            self.check_ascending(paper, 1 if word == "unlike" else 0)
            if len(one) > 0 and len(other) > 0 and one.colours[0] == other.colours[0]:
                self.check_ascending(led_answer(one, (0,), other, (0,)), 0)
            self.check_ascending(symmetries_of(one), 0)
        self.assertNotEqual(dicts_in(symmetries_of(path(5))), [])


class ShorterAhead(unittest.TestCase):
    def check_shorter(self, value, least=1):
        """Fails unless there are so many dicts, all with shorter rows ahead, then ascending."""
        found = dicts_in(value)
        self.assertGreaterEqual(len(found), least)
        for told in found:
            self.assertEqual(list(told), rows_first(told))

    def test_names(self):
        for webs, k in itertools.product(PAIRS + ((RING,), (TWO, RING, DOT)), (1, 2, 3)):
            self.check_shorter(stable_names(webs, k), len(webs))
            for depth in (0, 1, 3):
                self.check_shorter(names_at(webs, k, depth), len(webs))

    def test_ladders_and_tables(self):
        for (one, other), k in itertools.product(PAIRS, (1, 2, 3)):
            least = least_apart(one, other, k)
            if least is None:
                for answer in (for_ever(one, other, k), game_answer(one, other, k, None)):
                    self.assertIn(answer[0], ("alike", "keeper"))
                    self.check_shorter(answer, 2)
            depth = 3 if least is None else least - 1
            for answer in (alike_answer(one, other, k, depth), game_answer(one, other, k, depth), parting_answer(one, other, k, depth)):
                self.assertIn(answer[0], ("alike", "keeper"))
                self.check_shorter(answer, 2 * (depth + 1))
            if len(one) <= 5 and len(one) == len(other):
                colours = {name: 0 for web in names_at((one, other), k, 0) for row, name in web.items() if len(row) == 1}
                if depth > 0:
                    self.check_shorter(recoloured_ladder(k, one, other, depth, 0, colours)[2], 2 * (depth + 1))

    def test_carried(self):
        ladder, more = alike_answer(RING, TWO, 1, 2)[1], alike_answer(DOT, DOT, 1, 2)[1]
        for word in ("beside", "joined", "times"):
            self.check_shorter(carried_ladder(word, 1, RING, TWO, ladder, DOT, DOT, more), 6)
            table = carried_table(word, 1, RING, TWO, for_ever(RING, TWO, 1)[1], DOT, DOT, for_ever(DOT, DOT, 1)[1])
            self.check_shorter(table, 2)
        for word in ("beside", "joined"):
            made = made_webs(word, RING, TWO, DOT, DOT)
            self.check_shorter(cancelled(word, 1, RING, TWO, DOT, alike_answer(*made, 1, 3)[1]), 8)

    def test_answered(self):
        claim = ("alike", 1, None, (RING.colours, RING.ties), (TWO.colours, TWO.ties))
        self.check_shorter(answered(claim)[1], 2)
        self.check_shorter(answered(claim[:2] + (3,) + claim[3:])[1], 8)


if __name__ == "__main__":
    unittest.main()
