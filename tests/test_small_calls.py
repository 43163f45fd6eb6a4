"""Small calls of the stages 5 to 15 that are made very many times: what they are, near values, limits beside them."""
import fractions
import itertools
import unittest

import told
from fivealike.colour.alike import alike_answer, are_alike, is_ladder, least_apart, rounds_apart
from fivealike.colour.rounds import name_number, names_at, stable_names, stable_round
from fivealike.depth.forests import is_unlike_forest, unlike_forest
from fivealike.errors import InvalidMap, InvalidSentence, InvalidTable, TooMany
from fivealike.game.tokens import (game_answer, is_pairing_for, is_spoiler_table, is_spoiler_take, least_moves, pairing_for,
                                   spoiler_take)
from fivealike.line.lines import span_number
from fivealike.pattern.closure import unlike_recipe
from fivealike.program.bars import is_partial_answer, partial_answer
from fivealike.program.point import is_point
from fivealike.say.parting import (agree, is_name_line, is_parting_answer, least_depth, name_line, parting_answer,
                                   parting_sentence)
from fivealike.say.sentences import free_names, is_saying, is_sentence
from fivealike.side.keepers import is_family, is_side_answer, side_answer
from fivealike.web.maps import map_number
from fivealike.web.webs import Web, beside, renamed
from helper import NO_WEB, RING, TWO, check_refused, full, path, ring, some_names, some_web

P, C, D = Web((0, 1, 2), ((0, 1), (1, 2))), Web((0, 0, 1), ((0, 1),)), Web((0, 1, 0), ((0, 1),))
E, Z = Web((0, 0, 0), ((0, 1),)), Web((0, 0, 0), ())
S = renamed(ring(7), (3, 6, 1, 0, 5, 2, 4))
M = renamed(beside(ring(4), ring(3)), (2, 5, 0, 6, 1, 4, 3))


class Apart(unittest.TestCase):
    def test_listed(self):
        self.assertEqual(rounds_apart(RING, TWO), (None, 3, 3))
        self.assertEqual([least_apart(RING, TWO, k) for k in (1, 2, 3)], [None, 3, 3])
        self.assertEqual((least_moves(E, Z, 1), least_depth(D, D, 2), parting_sentence(D, D, 2)), (2, None, None))

    def test_told(self):
        pairs = [(some_web(seed, 4, 0.5, (0, 1)), some_web(seed + 30, 4, 0.5, (0, 1))) for seed in range(15)]
        pairs += [(some_web(seed, 4), renamed(some_web(seed, 4), some_names(seed, 4))) for seed in range(4)]
        pairs += [(path(5, 1), path(5, 3)), (path(5, 0), path(5, 1)), (Web((-1, 0), ()), Web((0, -1), ())), (NO_WEB, Z), (E, Web((0, 0), ((0, 1),))),
                  (beside(path(2), path(3)), path(5)), (Web((0, 1, 0, 1), ((0, 1), (2, 3))), Web((0, 1, 0, 1), ((0, 3), (1, 2))))]
        for one, other in pairs:
            for k in (1, 2, 3):
                if k == 3 and len(one) > 4:
                    continue
                least = told.least_apart(one, other, k, 5)
                self.assertEqual(least_apart(one, other, k), least)
                self.assertEqual(least_moves(other, one, k), least)
                for depth in range(5):
                    self.assertIs(are_alike(one, other, k, depth), least is None or depth < least)

    def test_late_rounds(self):
        """Some marked paths and rings are apart late; each k parts as the names do."""
        for one, other in ((path(9, 3), path(9, 4)), (path(12, 5), path(12, 4)), (beside(path(6, 1), ring(3)), beside(path(6, 2), ring(3)))):
            for k in (1, 2):
                kind, paper = alike_answer(one, other, k, 99)
                self.assertEqual((kind, paper), ("apart", least_apart(one, other, k)))
                self.assertTrue(is_ladder(one, other, k, paper - 1, alike_answer(one, other, k, paper - 1)[1]))
                self.assertEqual(game_answer(one, other, k, None)[1][(), ()][0], paper)
        self.assertEqual(rounds_apart(path(8, 0), path(8, 1)), (2, 2, 2))
        self.assertEqual(rounds_apart(ring(8), beside(ring(4), ring(4))), (None, 3, 3))
        self.assertEqual(rounds_apart(ring(8), beside(ring(3), ring(5))), (None, 3, 3))
        for one, other in ((full(9), RING), (RING, full(9))):
            check_refused(self, TooMany(4096), rounds_apart, one, other)


class Names(unittest.TestCase):
    def test_listed(self):
        for webs, k in (((C, C), 2), ((C, D), 2), ((C, C, D, C), 1), ((P, P, P), 3), ((E, Z), 3)):
            for depth in (0, 1, 2):
                names = told.names(webs, k, depth)
                self.assertEqual([dict(own) for own in names_at(webs, k, depth)], names)
                self.assertEqual(name_number(webs, k, depth), len({name for own in names for name in own.values()}))
            many = [name_number(webs, k, depth) for depth in range(6)]
            stable = [at for at in range(5) if many[at] == many[at + 1]][0]
            self.assertEqual((stable_round(webs, k), [dict(own) for own in stable_names(webs, k)]), (stable, told.names(webs, k, stable)))

    def test_equal_webs_share_nothing(self):
        made = names_at((C, C), 2, 1)
        made[0][()] = 77
        self.assertEqual((made[1][()], names_at((C, C), 2, 1)[0][()]), (0, 0))

    def test_sequence_of_atoms(self):
        """Names have the sequence of marks, whatever patterns of ties and equal points there are."""
        for web in (some_web(3, 4, 0.5), Web((-1, 9, 0, 0), ((0, 1), (1, 2), (2, 3))), full(4), path(4), some_web(8, 4, 0.3, (0, 1))):
            for depth in (0, 1, 2):
                self.assertEqual(dict(names_at((web,), 3, depth)[0]), told.names((web,), 3, depth)[0])


class Sentences(unittest.TestCase):
    def test_many_sentences(self):
        twenty = ((("all", ()),) * 2000,) * 20
        self.assertEqual(agree(D, D, 1, twenty), (True,) * 20)
        self.assertEqual(agree(D, Z, 1, twenty), (True,) * 20)
        mixed = ((("all", ()),), (("some", ()),), (("colour", 0, 1), ("least", 1, 0, 0)), (("tie", 0, 1), ("least", 1, 1, 0), ("least", 2, 0, 1)))
        self.assertEqual([agree(D, other, 1, mixed) for other in (D, E, Z)], [(True,) * 4, (True, True, False, True), (True, True, False, False)])
        check_refused(self, InvalidSentence(""), agree, D, D, 1, twenty + twenty[:1])
        check_refused(self, InvalidSentence(""), agree, D, D, 1, twenty[:19] + (twenty[0] + (("all", ()),),))
        check_refused(self, InvalidSentence(""), agree, D, D, 1, twenty[:19] + (twenty[0][1:] + (("all", [])),))
        check_refused(self, InvalidSentence(""), agree, full(40), D, 2, twenty[:19] + ((("colour", 0, 1),),))
        check_refused(self, TooMany(4096), agree, full(40), D, 2, twenty)

    def lines(self, many):
        """So many lines of ties, same, some and all, the last one without free names."""
        found = []
        for at in range(many - 1):
            high = at % 3 + 1
            found.append((("tie", at % high, high), ("same", at % high, high), ("some", (at // 2, at // 3)), ("all", (at - 1, 0)))[at % 4 if at > 3 else at % 2])
        return tuple(found) + (("all", ()),)

    def test_long_sayings(self):
        lines = self.lines(1600)
        self.assertIs(is_sentence(3, lines), True)
        self.assertEqual(list(free_names(3, lines)), [tuple(sorted(names)) for names in told.free(lines)])
        self.assertIs(is_sentence(3, lines[:-1]), False)
        self.assertIs(is_saying(3, lines[:-1]), True)
        self.assertIs(is_sentence(2, lines), False)
        for at in (0, 1, 4, 5, 6, 7, 800, 1598, 1599):
            for line in (("tie", 1, 0), ("tie", 0, 4), ("tie", False, 1), ("same", 0, True), ("all", (at,)), ("all", (-1,)), ("some", (False,)), ("all", [0]), ("some", 0),
                         ("not", at), ("not", True), ("least", 0, 0, 0), ("least", 1, 4, 0), ("colour", 0, 10), ("colour", True, 0), ("all", (0,) * 41), ("All", ()),
                         ["all", ()], ("all",), ("all", (), ()), (), None, "all", ("tie", 0, 1, 2), (("all", ()),), ("all", None), ("all", ((),))):
                if line == ("not", True) and at > 1:
                    line = ("not", True, 0)
                self.assertIs(is_saying(3, lines[:at] + (line,) + lines[at + 1:]), False)
        ties = (("tie", 0, 1),) * 2000
        self.assertEqual([is_saying(1, ties), is_sentence(1, ties), is_saying(1, ties + ties[:1]), is_saying(1, ties[:1999] + (("tie", 0, True),))],
                         [True, False, False, False])
        self.assertEqual(free_names(1, ties), ((0, 1),) * 2000)

    def test_parting(self):
        kind, ladder = answer = parting_answer(D, D, 3, 2)
        self.assertEqual((kind, len(ladder)), ("alike", 3))
        self.assertTrue(is_ladder(D, D, 3, 2, ladder) and is_parting_answer(D, D, 3, 2, answer))
        self.assertFalse(is_parting_answer(D, D, 3, 1, answer) or is_parting_answer(D, D, 2, 2, answer) or is_parting_answer(D, E, 3, 2, answer))
        kind, sentence = answer = parting_answer(D, P, 2, 2)
        self.assertTrue(kind == "apart" and is_parting_answer(D, P, 2, 2, answer) and told.holds(sentence, D) != told.holds(sentence, P))
        for one, other, k in ((D, D, 2), (RING, TWO, 1), (path(3), renamed(path(3), (1, 0, 2)), 3)):
            self.assertIsNone(parting_sentence(one, other, k))
            self.assertIsNone(least_depth(one, other, k))

    def test_name_lines(self):
        for webs, k, depth, row in (((D, D), 2, 1, (0, 2)), ((D, E, D), 2, 1, (0, 2)), ((D, D), 1, 2, (1,)), ((C, C, D, D), 2, 2, ()), ((E, Z), 1, 1, (0,))):
            saying = name_line(webs, k, depth, row)
            self.assertIs(is_name_line(webs, k, depth, row, saying), True)
            names = told.names(webs, k, depth)
            free = sorted(told.free(saying)[-1])
            for web, own in zip(webs, names):
                for goal in [goal for goal in own if len(goal) == len(row)]:
                    leads = {name: goal[name] for name in free}
                    self.assertIs(told.is_line_true(saying, len(saying) - 1, leads, web), own[goal] == names[0][row])
            denied = saying + (("not", len(saying) - 1),)
            self.assertIs(is_name_line(webs, k, depth, row, denied), False)


class Programs(unittest.TestCase):
    def test_points(self):
        kind, point = answer = partial_answer(S, M, 1, ())
        self.assertEqual(kind, "point")
        self.assertTrue(is_partial_answer(S, M, 1, (), answer) and is_point(S, M, 1, point))
        whole, numbers = point
        for here in range(7):
            self.assertEqual(sum([numbers.get(((here, there),), 0) for there in range(7)]), whole)
            for there in range(7):
                for other in range(7):
                    pairs = [tuple(sorted({(here, there), (other, goal)})) for goal in range(7)]
                    self.assertEqual(sum([numbers.get(partial, 0) for partial in pairs]), numbers.get(((here, there),), 0))
        self.assertEqual(list(numbers), sorted(numbers))

    def test_near_points(self):
        _, (whole, numbers) = partial_answer(S, M, 1, ())
        pairs = [partial for partial in numbers if len(partial) == 2]
        first, second = pairs[0]
        for value in ((whole + 1, numbers), (True, numbers), (whole, {**numbers, (): whole + 1}), (whole, {**numbers, pairs[5]: numbers[pairs[5]] + 1}),
                      (whole, {partial: number for partial, number in numbers.items() if partial != pairs[7]}), (whole, {**numbers, (second, first): 1}),
                      (whole, {**numbers, ((0, 7),): 1}), (whole, {**numbers, (first, (1, first[1])): 1}), (whole, {**numbers, None: 1}), (whole, {**numbers, (0,): 1}),
                      (whole, {**numbers, pairs[3] + ((6, 6),): 1}), (whole, {**numbers, ((-1, 0),): 1}), (whole, {**numbers, pairs[4]: 0}), [whole, numbers],
                      (whole, list(numbers)), (2 * whole, numbers), (whole, {**numbers, pairs[2]: True})):
            self.assertIs(is_point(S, M, 1, value), False)
            self.assertIs(is_partial_answer(S, M, 1, (), ("point", value)), False)
        bools = {tuple([(bool(here) if here < 2 else here, there) for here, there in partial]): number for partial, number in numbers.items()}
        self.assertEqual(bools, numbers)
        self.assertIs(is_point(S, M, 1, (whole, bools)), False)
        self.assertIs(is_point(S, M, 1, (10 ** 60 * whole, {partial: 10 ** 60 * number for partial, number in numbers.items()})), True)

    def test_limits(self):
        self.assertEqual(partial_answer(ring(17), beside(ring(9), ring(8)), 1, ())[0], "point")
        check_refused(self, TooMany(300), partial_answer, ring(18), ring(18), 1, ())
        check_refused(self, TooMany(300), is_partial_answer, ring(18), ring(3), 1, (), None)
        check_refused(self, InvalidMap(""), partial_answer, S, M, 1, ((0, 0), (1, 1)))
        check_refused(self, TooMany(300), span_number, ring(18), ring(3), 1)
        eight, nine = Web(tuple(range(8)), ()), Web(tuple(range(9)), ())
        self.assertEqual(span_number(eight, eight, 1), 64)
        check_refused(self, TooMany(64), span_number, nine, nine, 1)


class Spans(unittest.TestCase):
    def told_span(self, one, other, k):
        """The number of independent tables of line recipes, by fractions."""
        rows = [(web, row) for web in (one, other) for row in itertools.product(range(len(web)), repeat=k + 1)]
        index = {(at < len(one) ** (k + 1), row): at for at, (_, row) in enumerate(rows)}
        steps = [("tie", i, j) for j in range(k + 1) for i in range(j)] + [("same", i, j) for j in range(k + 1) for i in range(j)]
        steps += [("colour", i, c) for i in range(k + 1) for c in range(10)]
        basis = []
        waiting = [[1] * len(rows)]
        while waiting:
            table = waiting.pop(0)
            left = [fractions.Fraction(number) for number in table]
            for at, known in basis:
                left = [number - left[at] * other for number, other in zip(left, known)] if left[at] else left
            if any(left):
                at = [number != 0 for number in left].index(True)
                basis.append((at, [number / left[at] for number in left]))
                for step in steps:
                    waiting.append([number if self.fits(web, row, step) else 0 for number, (web, row) in zip(table, rows)])
                for place in range(k + 1):
                    waiting.append([sum([table[index[at < len(one) ** (k + 1), row[:place] + (point,) + row[place + 1:]]] for point in range(len(web))])
                                    for at, (web, row) in enumerate(rows)])
        return len(basis)

    def fits(self, web, row, step):
        if step[0] == "tie":
            return web.is_tied(row[step[1]], row[step[2]])
        return row[step[1]] == row[step[2]] if step[0] == "same" else web.colours[row[step[1]]] == step[2]

    def test_listed(self):
        self.assertEqual(span_number(P, P, 1), 9)

    def test_told(self):
        for one, other, k in ((P, P, 1), (P, D, 1), (C, C, 1), (E, Z, 1), (path(3), path(3), 1), (path(4), path(4), 1), (NO_WEB, Web((0,), ()), 1),
                              (Web((0, 0), ()), Web((0, 0), ((0, 1),)), 2), (NO_WEB, NO_WEB, 2)):
            self.assertEqual(span_number(one, other, k), self.told_span(one, other, k))


class Sides(unittest.TestCase):
    def test_listed(self):
        one, other = path(4), full(3)
        kind, family = answer = side_answer(one, other, 2)
        self.assertEqual(kind, "family")
        self.assertTrue(is_side_answer(one, other, 2, answer) and is_family(one, other, 2, family))
        parts = [part for many in range(4) for points in itertools.combinations(range(4), many)
                 for part in [tuple(zip(points, images)) for images in itertools.product(range(3), repeat=many)]
                 if all(a != b for (x, a), (y, b) in itertools.combinations(part, 2) if y == x + 1)]
        # Each part of a path can be led on: all of them are the greatest family.
        self.assertEqual(family, tuple(sorted(parts)))

    def test_near_families(self):
        one, other = path(4), full(3)
        family = side_answer(one, other, 2)[1]
        images = (0, 1, 0, 2)
        small = tuple(sorted([part for many in range(4) for part in itertools.combinations(tuple(enumerate(images)), many)]))
        self.assertIs(is_family(one, other, 2, small), True)
        for at in range(len(small)):
            self.assertIs(is_family(one, other, 2, small[:at] + small[at + 1:]), False)
        for value in (family[1:], family[::-1], list(family), family + family[-1:], small + (((0, 3),),), tuple(sorted(small + (((1, 0),),))), small[:-1] + (((3, True),),),
                      (((0, 0),),) + small, (), (None,), ((),), small[:1] + ([(0, 0)],) + small[2:], small[:1] + (([0, 0],),) + small[2:], (((0, [0]),),), ((), ((0, 0, 0),)),
                      tuple([tuple([(here, bool(image) if image < 2 else image) for here, image in part]) for part in small])):
            self.assertIs(is_family(one, other, 2, value), False)
            self.assertIs(is_side_answer(one, other, 2, ("family", value)), False)
        self.assertIs(is_family(one, other, 1, small), False)
        check_refused(self, TooMany(20000), is_side_answer, path(12), path(12), 2, None)
        self.assertIs(is_side_answer(path(11), path(12), 2, None), False)


class Forests(unittest.TestCase):
    def test_listed(self):
        pattern, above, labels = value = unlike_forest(RING, TWO, 2)
        self.assertNotEqual(map_number(pattern, RING), map_number(pattern, TWO))
        self.assertIs(is_unlike_forest(RING, TWO, 2, value), True)
        for near in ((pattern, above, labels[::-1]), (pattern, above[::-1], labels), (Web(pattern.colours, pattern.ties[1:]), above, labels), (pattern, above), list(value),
                     (path(3), (None, 0, 1), (0, 1, 2)), (pattern, (None,) * len(above), labels)):
            self.assertIs(is_unlike_forest(RING, TWO, 2, near), self.told(near))
        self.assertIs(is_unlike_forest(RING, TWO, 1, value), False)

    def told(self, value):
        """Whether a bent value is right all the same, by the words."""
        if not isinstance(value, tuple) or len(value) != 3:
            return False
        pattern, above, labels = value
        ways = {}
        for point in range(len(pattern)):
            way = [point]
            while above[way[-1]] is not None and len(way) <= len(pattern):
                way.append(above[way[-1]])
            ways[point] = way
        for here, there in pattern.ties:
            if there not in ways[here] and here not in ways[there]:
                return False
            low, high = (here, there) if there in ways[here] else (there, here)
            if labels[high] in [labels[point] for point in ways[low][:ways[low].index(high)]]:
                return False
        return max([len(way) for way in ways.values()]) == 3 and map_number(pattern, RING) != map_number(pattern, TWO)

    def test_limits(self):
        check_refused(self, TooMany(512), unlike_forest, ring(9), path(9), 2)
        check_refused(self, TooMany(512), unlike_recipe, ring(9), path(9), 2, 9)
        self.assertIsNotNone(unlike_forest(ring(8), beside(ring(4), ring(4)), 2))
        # More than 64 types of rows of two points at the depth one below that at which both are apart.
        late = (path(20, 9), path(20, 7))
        self.assertEqual(least_apart(late[0], late[1], 1), 5)
        check_refused(self, TooMany(64), unlike_forest, late[0], late[1], 1)


class Games(unittest.TestCase):
    def test_listed(self):
        self.assertEqual(least_moves(E, Z, 1), 2)
        ladder, start = alike_answer(E, Z, 1, 1)[1], ((), ())
        pairing = pairing_for(E, Z, 1, ladder, 1, start)
        for value in itertools.permutations(range(3)):
            self.assertIs(is_pairing_for(E, Z, 1, ladder, 1, start, value), True)
        for value in ((0, 1), (0, 1, 1), (0, 1, 3), (False, 1, 2), [0, 1, 2], None, pairing + (0,)):
            self.assertIs(is_pairing_for(E, Z, 1, ladder, 1, start, value), False)
        table = game_answer(E, Z, 1, None)[1]
        self.assertIs(is_spoiler_table(E, Z, 1, table), True)
        for pairing in itertools.permutations(range(3)):
            takes = [(v, place) for v in range(3) for place in range(2) if is_spoiler_take(E, Z, 1, table, start, pairing, (v, place))]
            self.assertIn(spoiler_take(E, Z, 1, table, start, pairing), takes)
            wanted = [(v, 0) for v in range(3) if ((v,), (pairing[v],)) in table and table[(v,), (pairing[v],)][0] < table[start][0]]
            self.assertEqual(takes, wanted)

    def test_near_tables(self):
        table, start = game_answer(E, Z, 1, None)[1], ((), ())
        for position in table:
            fewer = {here: entry for here, entry in table.items() if here != position}
            self.assertIs(is_spoiler_table(E, Z, 1, fewer), self.told_table(fewer))
            moves, left, right = table[position]
            for entry in ((moves + 1, left, right), (moves - 1, left, right), (moves, right, left), (moves, left[1:], right), (moves, left, left), (True, left, right),
                          (moves, left + (2,), right), (moves, (0, 1, 2), right), (moves, left, (0,)), (moves, (1, 0), right), (moves, (False,), right), (10 ** 40, left, right)):
                bent = {**table, position: entry}
                right_form = isinstance(entry[0], int) and entry[0] is not True and entry[0] > 0 and False not in [type(at) is int for at in entry[1] + entry[2]]
                right_form = right_form and list(entry[1]) == sorted(set(entry[1])) and len(entry[1]) != len(entry[2])
                self.assertIs(is_spoiler_table(E, Z, 1, bent), right_form and self.told_table(bent))
        check_refused(self, InvalidTable(""), spoiler_take, E, Z, 1, {start: table[start]}, start, (0, 1, 2))

    def told_table(self, table):
        """Whether a dict with right entries leads on, by the words."""
        if ((), ()) not in table:
            return False
        for (row, goal), (moves, left, right) in table.items():
            pairs = [(v, w) for v in range(3) for w in range(3)
                     if (v in left and w not in right if len(left) > len(right) else v not in left and w in right)]
            for v, w in pairs:
                rows = (row + (v,), goal + (w,))
                if told.atom(E, rows[0]) == told.atom(Z, rows[1]):
                    led = [rows] if len(rows[0]) <= 1 else list(zip(told.cuts(rows[0]), told.cuts(rows[1])))
                    if not any(position in table and table[position][0] < moves for position in led):
                        return False
        return True


if __name__ == "__main__":
    unittest.main()
