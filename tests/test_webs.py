"""Stage 1: webs, rows and atoms."""
import itertools
import unittest

import told
from fivealike.errors import InvalidNumber, InvalidOperation, InvalidRow, InvalidWeb, TooMany
from fivealike.web.webs import (Web, are_like, atom_of, beside, is_row, joined, opposite, part, pieces, recoloured,
                                renamed)
from helper import DOT, FORTY, NO_WEB, RING, STRANGE, TWO, check_refused, full, path, some_names, some_web

PATH = Web((2, -1, 2), ((0, 1), (1, 2)))


class Webs(unittest.TestCase):
    def test_wrong_colours(self):
        wrong = [value for value in STRANGE if value != ()]
        for colours in wrong + [(10,), (-2,), (True,), (False,), (None,), ("0",), [0], (0,) * 41, (0, (0,)), (10 ** 99,)]:
            check_refused(self, InvalidWeb(""), Web, colours, ())
            # The colours are told ahead of the ties.
            check_refused(self, InvalidWeb(""), Web, colours, ((0, 0),))

    def test_wrong_ties(self):
        wrong = [value for value in STRANGE if value != ()]
        for ties in wrong + [((1, 0),), ((0, 0),), ((0, 3),), ((-1, 0),), ((0, 2), (0, 1)), ((0, 1), (0, 1)), [(0, 1)],
                             ([0, 1],), ((0, True),), ((False, 1),), ((0, 1, 2),), ((0,),), (0, 1), ((0, "1"),),
                             ((0, 1), None), ((0, 10 ** 99),)]:
            check_refused(self, InvalidWeb(""), Web, (0, 0, 0), ties)
        check_refused(self, InvalidWeb(""), Web, (), ((0, 1),))

    def test_edges(self):
        self.assertEqual((len(NO_WEB), NO_WEB.degrees, NO_WEB.colours, NO_WEB.ties), (0, (), (), ()))
        self.assertEqual((len(FORTY), FORTY.degrees), (40, (0,) * 40))
        self.assertEqual(Web((-1, 9), ((0, 1),)).colours, (-1, 9))
        self.assertEqual(full(40).degrees, (39,) * 40)
        self.assertEqual((str(NO_WEB), str(full(40))), ("web of 0 points, 0 ties", "web of 40 points, 780 ties"))
        self.assertEqual(str(Web((0, 0), ((0, 1),))), "web of 2 points, 1 ties")

    def test_points(self):
        self.assertTrue(0 in DOT)
        for value in (1, -1, False, True, None, "0", (0,), [0], {}, 10 ** 99, DOT):
            self.assertFalse(value in DOT)
        self.assertEqual([point in RING for point in range(-1, 8)], [False] + [True] * 6 + [False] * 2)
        self.assertFalse(0 in NO_WEB)

    def test_equal(self):
        self.assertTrue(RING == Web(RING.colours, RING.ties))
        self.assertFalse(RING != Web(RING.colours, RING.ties))
        for other in (TWO, Web((0,) * 6, ()), Web((1,) + (0,) * 5, RING.ties), None, RING.ties, (RING.colours, RING.ties),
                      "web of 6 points, 6 ties", {}):
            self.assertFalse(RING == other)
            self.assertTrue(RING != other)

    def test_not_iterated(self):
        for function in (iter, list, tuple, sorted):
            with self.assertRaises(TypeError):
                function(RING)

    def test_near(self):
        for seed in range(20):
            web = some_web(seed, 7, 0.4)
            for point in range(7):
                near = tuple([other for other in range(7) if (min(other, point), max(other, point)) in web.ties])
                self.assertEqual(web.near(point), near)
                self.assertEqual(web.degrees[point], len(near))
                for other in range(7):
                    self.assertIs(web.is_tied(point, other), other in near)

    def test_no_points(self):
        for value in (6, -1, True, False, None, "0", (0,), [], 10 ** 99):
            check_refused(self, InvalidNumber(value), RING.near, value)
            check_refused(self, InvalidNumber(value), RING.is_tied, value, 9)
            check_refused(self, InvalidNumber(value), RING.is_tied, 0, value)
        check_refused(self, InvalidNumber(0), NO_WEB.near, 0)


class ToldAnew(unittest.TestCase):
    def test_part(self):
        web = some_web(3, 8, 0.5, (-1, 0, 9))
        for many in range(9):
            for points in itertools.combinations(range(8), many):
                made = part(web, points)
                self.assertEqual(made.colours, tuple([web.colours[point] for point in points]))
                self.assertEqual(made.ties, tuple([(i, j) for i, j in itertools.combinations(range(many), 2)
                                                   if (points[i], points[j]) in web.ties]))

    def test_wrong_part(self):
        wrong = [value for value in STRANGE if value != ()]
        for points in wrong + [(1, 0), (0, 0), (0, 6), (-1,), (True,), (0, True), [0], (None,)]:
            check_refused(self, InvalidOperation(""), part, RING, points)
        for web in STRANGE:
            check_refused(self, InvalidWeb(""), part, web, (0,))
            check_refused(self, InvalidWeb(""), part, web, (1, 0))

    def test_renamed(self):
        for seed in range(20):
            web, names = some_web(seed, 7, 0.4, (-1, 2)), some_names(seed, 7)
            made = renamed(web, names)
            for point in range(7):
                self.assertEqual(made.colours[names[point]], web.colours[point])
                for other in range(7):
                    self.assertEqual(made.is_tied(names[point], names[other]), web.is_tied(point, other))
        self.assertEqual(renamed(NO_WEB, ()), NO_WEB)

    def test_wrong_names(self):
        for names in STRANGE + ((0, 1), (0, 1, 1), (0, 1, 3), (0, 1, 2, 3), (False, True, 2), (0, 1, -1), [0, 1, 2]):
            check_refused(self, InvalidOperation(""), renamed, PATH, names)
            check_refused(self, InvalidWeb(""), renamed, None, names)

    def test_recoloured(self):
        self.assertEqual(recoloured(PATH, (9, -1, 0)), Web((9, -1, 0), PATH.ties))
        self.assertEqual(recoloured(NO_WEB, ()), NO_WEB)
        for colours in STRANGE + ((0, 0), (0, 0, 10), (0, 0, -2), (0, 0, True), (0, 0, 0, 0), [0, 0, 0]):
            check_refused(self, InvalidOperation(""), recoloured, PATH, colours)
            check_refused(self, InvalidWeb(""), recoloured, "web", colours)

    def test_beside_and_joined(self):
        for seed in range(10):
            one, other = some_web(seed, 4, 0.5, (0, 1)), some_web(seed + 50, 3, 0.5, (-1, 2))
            side, both = beside(one, other), joined(one, other)
            self.assertEqual((side.colours, both.colours), (one.colours + other.colours,) * 2)
            for here, there in itertools.combinations(range(7), 2):
                across = here < 4 <= there
                tied = one.is_tied(here, there) if there < 4 else not across and other.is_tied(here - 4, there - 4)
                self.assertEqual(side.is_tied(here, there), tied)
                self.assertEqual(both.is_tied(here, there), tied or across)
        for function in (beside, joined):
            self.assertEqual(function(NO_WEB, RING), RING)
            self.assertEqual(function(RING, NO_WEB), RING)
            self.assertEqual(len(function(full(20), full(20))), 40)
            check_refused(self, TooMany(40), function, full(20), full(21))
            check_refused(self, TooMany(40), function, FORTY, DOT)
            self.assertEqual(len(function(FORTY, NO_WEB)), 40)
            check_refused(self, InvalidWeb(""), function, None, FORTY)
            check_refused(self, InvalidWeb(""), function, FORTY, ())

    def test_opposite(self):
        for seed in range(10):
            web = some_web(seed, 6, 0.5, (-1, 0, 1))
            made = opposite(web)
            self.assertEqual(made.colours, web.colours)
            for here, there in itertools.combinations(range(6), 2):
                self.assertNotEqual(made.is_tied(here, there), web.is_tied(here, there))
            self.assertEqual(opposite(made), web)
        self.assertEqual(opposite(FORTY), full(40))
        self.assertEqual(opposite(NO_WEB), NO_WEB)
        check_refused(self, InvalidWeb(""), opposite, (RING.colours, RING.ties))

    def test_pieces(self):
        self.assertEqual(pieces(NO_WEB), ())
        self.assertEqual(pieces(FORTY), tuple([(point,) for point in range(40)]))
        self.assertEqual(pieces(full(40)), (tuple(range(40)),))
        self.assertEqual(pieces(path(40)), (tuple(range(40)),))
        self.assertEqual(pieces(Web((0,) * 5, ((0, 4), (1, 3)))), ((0, 4), (1, 3), (2,)))
        check_refused(self, InvalidWeb(""), pieces, None)

    def test_a_web_is_its_pieces_beside_one_another(self):
        for seed in range(30):
            web = some_web(seed, 9, 0.15, (0, 1))
            made, names = NO_WEB, [0] * 9
            for piece in pieces(web):
                for point in piece:
                    names[point] = len(made) + piece.index(point)
                made = beside(made, part(web, piece))
                self.assertEqual(len(pieces(part(web, piece))), 1)
            self.assertEqual(renamed(web, tuple(names)), made)
            if len(pieces(web)) > 1:
                self.assertEqual(len(pieces(opposite(web))), 1)


class Rows(unittest.TestCase):
    def test_rows(self):
        for row in ((), (0,), (5, 5, 5, 5), (3, 0, 3, 1)):
            self.assertIs(is_row(RING, row), True)
        wrong = [value for value in STRANGE if value != ()]
        for row in wrong + [(0,) * 5, (6,), (-1,), (True,), (0, False), [0], (0, None), ((0,),), (10 ** 99,), RING]:
            self.assertIs(is_row(RING, row), False)
        self.assertIs(is_row(NO_WEB, ()), True)
        self.assertIs(is_row(NO_WEB, (0,)), False)
        check_refused(self, InvalidWeb(""), is_row, None, ())

    def test_atoms(self):
        web = some_web(5, 4, 0.5, (-1, 0, 9))
        for row in told.rows(web, 4):
            self.assertEqual(atom_of(web, row), told.atom(web, row))
        self.assertEqual(atom_of(NO_WEB, ()), ((), (), ()))
        self.assertEqual(atom_of(PATH, (1, 1, 1, 1)), ((-1,) * 4, ((0, 1), (0, 2), (0, 3), (1, 2), (1, 3), (2, 3)), ()))

    def test_wrong_rows(self):
        for row in (None, [0], (0,) * 5, (3,), (-1,), (True,), 0, (0, (0,))):
            check_refused(self, InvalidRow(""), atom_of, PATH, row)
            check_refused(self, InvalidWeb(""), atom_of, None, row)
            check_refused(self, InvalidRow(""), are_like, PATH, row, None, None)
            check_refused(self, InvalidRow(""), are_like, RING, (0,), PATH, row)
        check_refused(self, InvalidWeb(""), are_like, None, None, None, None)
        check_refused(self, InvalidWeb(""), are_like, RING, (5,), None, None)
        check_refused(self, InvalidRow(""), are_like, RING, (5,), PATH, (5,))
        check_refused(self, InvalidRow(""), are_like, PATH, (5,), RING, (5,))

    def test_like(self):
        one, other = some_web(1, 3, 0.5, (0, 1)), some_web(2, 3, 0.5, (0, 1))
        for row in told.rows(one, 3):
            for goal in told.rows(other, 3):
                self.assertIs(are_like(one, row, other, goal), told.atom(one, row) == told.atom(other, goal))

    def test_what_becomes_of_atoms(self):
        for seed in range(5):
            web, more, names = some_web(seed, 4, 0.5, (0, 1)), some_web(seed + 9, 3), some_names(seed, 4)
            for row in told.rows(web, 3):
                far = tuple([point + 3 for point in row])
                self.assertTrue(are_like(web, row, renamed(web, names), tuple([names[point] for point in row])))
                for function in (beside, joined):
                    self.assertTrue(are_like(web, row, function(web, more), row))
                    self.assertTrue(are_like(web, row, function(more, web), far))
                colours, same, tied = atom_of(web, row)
                pairs = itertools.combinations(range(len(row)), 2)
                swapped = tuple([pair for pair in pairs if pair not in same and pair not in tied])
                self.assertEqual(atom_of(opposite(web), row), (colours, same, swapped))
                points = tuple(sorted(set(row)))
                self.assertTrue(are_like(web, row, part(web, points), tuple([points.index(point) for point in row])))

    def test_untrue(self):
        # A web that is its own opposite, renamed; one piece whose opposite has one, too.
        four = path(4)
        self.assertEqual(renamed(opposite(four), (2, 0, 3, 1)), four)
        self.assertEqual(len(pieces(four)), 1)
        self.assertEqual(len(pieces(opposite(four))), 1)


if __name__ == "__main__":
    unittest.main()
