"""Answers of the stages 1 to 7 that once took long: what they are, judges near them, and limits beside them."""
import itertools
import unittest

import told
from fivealike.colour.rounds import is_renaming, mark_of, name_number, names_at, stable_names, stable_round, type_of
from fivealike.errors import InvalidNumber, TooMany
from fivealike.game.tokens import game_answer, is_game_answer, is_spoiler_table, least_moves
from fivealike.web.maps import is_map, is_one_to_one, map_number, maps_of, one_to_one_number, told_number
from fivealike.web.webs import Web, beside
from fivealike.width.bags import bags_width, is_bags, is_bramble, is_width_answer, least_width, width_answer
from helper import NO_WEB, RING, TWO, check_refused, full, grid, path, ring, some_web
from test_bags import told_bags, told_bramble, told_width


def told_names(webs, k):
    """How many pairs of a length and an atom rows of at most k points have."""
    return len({(len(row), told.atom(web, row)) for web in webs for row in told.rows(web, k)})


class Maps(unittest.TestCase):
    def test_more_points_than_images(self):
        loose, two = Web((0,) * 16, ()), Web((0, 0), ())
        self.assertEqual([told_number(loose, two), one_to_one_number(loose, two), map_number(loose, two)], [0, 0, 2 ** 16])
        for function in (told_number, one_to_one_number, map_number, maps_of):
            check_refused(self, TooMany(100000), function, Web((0,) * 17, ()), two)
        self.assertIs(is_map(loose, two, (0, 1) * 8), True)
        self.assertIs(is_one_to_one(loose, two, (0, 1) * 8), False)

    def test_loose_points(self):
        five, ten = Web((-1,) * 5, ()), Web((0,) * 10, ())
        self.assertEqual(map_number(five, ten), 100000)
        self.assertEqual([one_to_one_number(five, ten), told_number(five, ten)], [10 * 9 * 8 * 7 * 6] * 2)
        self.assertEqual([told_number(five, full(10)), one_to_one_number(five, full(10))], [0, 10 * 9 * 8 * 7 * 6])
        for function in (told_number, one_to_one_number, map_number):
            check_refused(self, TooMany(100000), function, five, Web((0,) * 11, ()))
            check_refused(self, TooMany(100000), function, Web((-1,) * 6, ()), ten)
        self.assertEqual(map_number(Web((3,), ()), ten), 0)
        self.assertEqual(map_number(NO_WEB, ten), 1)
        self.assertEqual(map_number(five, NO_WEB), 0)

    def test_told(self):
        """All three numbers, by all maps."""
        for seed in range(40):
            pattern = some_web(seed, seed % 5, 0.5, ((0,), (-1, 0, 1))[seed % 2])
            web = some_web(seed + 70, seed % 6, 0.5, (0, 1))
            maps = [images for images in itertools.product(range(len(web)), repeat=len(pattern)) if is_map(pattern, web, images)]
            unlike = [images for images in maps if len(set(images)) == len(images)]
            pairs = [pair for pair in itertools.combinations(range(len(pattern)), 2) if pair not in pattern.ties]
            kept = [images for images in unlike if not any(web.is_tied(images[a], images[b]) for a, b in pairs)]
            self.assertEqual([map_number(pattern, web), one_to_one_number(pattern, web), told_number(pattern, web)],
                             [len(maps), len(unlike), len(kept)])


class Widths(unittest.TestCase):
    def test_grid(self):
        for web in (grid(3, 4), grid(4, 3)):
            kind, bags = width_answer(web, 3)
            self.assertEqual((kind, bags_width(web, bags)), ("bags", 3))
            self.assertTrue(told_bags(web, bags[0], bags[1]))
            kind, lots = width_answer(web, 2)
            self.assertEqual(kind, "bramble")
            self.assertTrue(told_bramble(web, 2, lots))
            self.assertIs(is_width_answer(web, 2, ("bramble", lots)), True)
            self.assertIs(is_width_answer(web, 3, ("bramble", lots)), False)
            self.assertIs(is_width_answer(web, 2, ("bags", bags)), False)
            self.assertEqual(least_width(web), 3)

    def test_near_values(self):
        web = grid(3, 3)
        lots = width_answer(web, 2)[1]
        bags, above = width_answer(web, 3)[1]
        for at in range(len(lots)):
            less = lots[:at] + lots[at + 1:]
            self.assertIs(is_bramble(web, 2, less), told_bramble(web, 2, less))
            for point in lots[at]:
                cut = lots[:at] + (tuple([here for here in lots[at] if here != point]),) + lots[at + 1:]
                self.assertIs(is_bramble(web, 2, cut), told_bramble(web, 2, cut))
        for at in range(len(bags)):
            for point in bags[at]:
                cut = bags[:at] + (tuple([here for here in bags[at] if here != point]),) + bags[at + 1:]
                self.assertIs(is_bags(web, (cut, above)), told_bags(web, cut, above))

    def test_least_widths(self):
        for web, width in ((full(8), 7), (path(12), 1), (ring(9), 2), (full(12), 11), (ring(12), 2), (Web((0,) * 12, ()), 0),
                           (beside(full(6), ring(6)), 5), (NO_WEB, -1)):
            self.assertEqual(least_width(web), width)
            for k in range(12):
                answer = width_answer(web, k)
                self.assertEqual(answer[0], "bags" if width <= k else "bramble")
                self.assertIs(is_width_answer(web, k, answer), True)

    def test_where_no_quick_way_is_enough(self):
        # Neither the first order nor the first lumps tell the width of these webs.
        for seed, many, share in ((44, 8, 0.6), (549, 9, 0.6), (54, 11, 0.6), (328, 12, 0.5), (1532, 12, 0.4), (111, 12, 0.3),
                                  (466, 10, 0.3), (293, 12, 0.5), (488, 11, 0.5)):
            web = some_web(seed, many, share)
            width = least_width(web)
            for k in (width - 1, width):
                kind, paper = answer = width_answer(web, k)
                self.assertEqual(kind, "bags" if k == width else "bramble")
                self.assertIs(is_width_answer(web, k, answer), True)
                if many <= 9:
                    self.assertTrue(told_bags(web, paper[0], paper[1]) if k == width else told_bramble(web, k, paper))
        for seed in range(25):
            web = some_web(seed, 6, 0.6)
            self.assertEqual(least_width(web), told_width(web))

    def test_limits(self):
        for web in (path(13), full(13), Web((0,) * 40, ())):
            check_refused(self, TooMany(12), least_width, web)
            check_refused(self, TooMany(12), width_answer, web, 1)
            check_refused(self, TooMany(12), is_bramble, web, 11, ())
        for k in (-1, 12):
            check_refused(self, InvalidNumber(k), width_answer, path(13), k)


class Rounds(unittest.TestCase):
    def test_stable_rounds(self):
        for k in (2, 3):
            many = [len({name for own in told.names((RING, TWO), k, depth) for name in own.values()}) for depth in range(5)]
            stable = [at for at in range(4) if many[at] == many[at + 1]][0]
            self.assertEqual(stable_round((RING, TWO), k), stable)
            for depth in range(5):
                self.assertEqual(name_number((RING, TWO), k, depth), many[depth])
            self.assertEqual([dict(own) for own in stable_names((RING, TWO), k)], told.names((RING, TWO), k, stable))

    def test_first_names(self):
        for web, k in ((some_web(5, 8, 0.5), 3), (some_web(5, 8, 0.5, (-1, 0, 4)), 3), (some_web(6, 16, 0.5), 2),
                       (some_web(6, 16, 0.5, tuple(range(-1, 10))), 2), (Web((0,) * 40, ()), 1), (path(40), 1)):
            self.assertEqual(name_number((web,), k, 0), told_names((web,), k))
        self.assertEqual(name_number((Web((0,) * 40, ()),), 1, 0), 2)

    def test_later_names(self):
        for web, k, depth in ((some_web(8, 6, 0.5, (-1, 0)), 3, 2), (some_web(9, 9, 0.3), 2, 3), (path(14, 3), 1, 5)):
            self.assertEqual([dict(own) for own in names_at((web,), k, depth)], told.names((web,), k, depth))

    def test_marks_and_types(self):
        marks, names = told.marks((RING, TWO), 2, 1), told.names((RING, TWO), 2, 1)
        for which, row in ((0, (0,)), (0, ()), (1, (3, 4)), (1, (5, 5)), (0, (0, 3))):
            self.assertEqual(mark_of((RING, TWO), 2, 1, which, row), marks[which][row])
        for which, row in ((0, (0, 1, 2)), (1, (0, 1, 2)), (1, (4, 4, 0))):
            web = (RING, TWO)[which]
            wanted = (told.atom(web, row), tuple([names[which][cut] for cut in told.cuts(row)]))
            self.assertEqual(type_of((RING, TWO), 2, 1, which, row), wanted)
        made = names_at((RING, TWO), 2, 0)
        self.assertEqual([dict(own) for own in made], told.names((RING, TWO), 2, 0))
        self.assertIs(is_renaming((RING, TWO), 2, 0, made), True)
        bent = ({**made[0], (0, 1): made[0][(0, 2)]}, made[1])
        self.assertIs(is_renaming((RING, TWO), 2, 0, bent), False)

    def test_limits(self):
        for k, within, beyond in ((2, 16, 17), (3, 8, 9)):
            web = some_web(3, within, 0.5)
            self.assertEqual(name_number((web, web), k, 0), told_names((web,), k))
            self.assertGreaterEqual(stable_round((web,), k), 1)
            large = some_web(3, beyond, 0.5)
            for function in (name_number, names_at):
                check_refused(self, TooMany(4096), function, (web, large), k, 0)
            check_refused(self, TooMany(4096), stable_round, (large,), k)
            check_refused(self, TooMany(4096), mark_of, (large,), k, 0, 0, ())
            check_refused(self, TooMany(4096), type_of, (large,), k, 0, 0, (0,) * (k + 1))
            check_refused(self, TooMany(4096), game_answer, web, large, k, 0)


class Games(unittest.TestCase):
    def test_answer(self):
        kind, table = answer = game_answer(RING, TWO, 2, 3)
        self.assertEqual((kind, table[(), ()][0], least_moves(RING, TWO, 2)), ("spoiler", 3, 3))
        self.assertIs(is_game_answer(RING, TWO, 2, 3, answer), True)
        self.assertIs(is_game_answer(RING, TWO, 2, 2, answer), False)
        for position in list(table)[::20]:
            moves, left, right = table[position]
            for entry in ((moves, left, right + (9,)), (moves, left, left), (0, left, right), (True, left, right)):
                self.assertIs(is_spoiler_table(RING, TWO, 2, {**table, position: entry}), False)
        late = [position for position in table if table[position][0] == 1]
        self.assertNotEqual(late, [])
        # Whatever leads to a position that is taken out leads on no more, if nothing else is led to.
        for position in late[::25]:
            fewer = {here: entry for here, entry in table.items() if here != position}
            self.assertIs(is_spoiler_table(RING, TWO, 2, fewer), self.told_table(fewer))

    def told_table(self, table):
        """Whether a dict with right entries leads on, by the words."""
        for (row, goal), (moves, left, right) in table.items():
            pairs = [(v, w) for v in range(6) for w in range(6)
                     if (v in left and w not in right if len(left) > len(right) else v not in left and w in right)]
            for v, w in pairs:
                rows = (row + (v,), goal + (w,))
                if told.atom(RING, rows[0]) != told.atom(TWO, rows[1]):
                    continue
                led = [rows] if len(rows[0]) <= 2 else list(zip(told.cuts(rows[0]), told.cuts(rows[1])))
                if not any(position in table and table[position][0] < moves for position in led):
                    return False
        return True


if __name__ == "__main__":
    unittest.main()
