"""Stage 5: rounds of rows."""
import unittest

import told
from fivealike.colour.rounds import (is_renaming, mark_of, name_number, names_at, stable_names, stable_round, type_of)
from fivealike.errors import InvalidNumber, InvalidRow, InvalidWeb, TooMany
from fivealike.web.webs import Web, renamed
from helper import (DOT, FORTY, NO_WEB, RING, STRANGE, TWO, check_refused, full, path, some_names, some_web)

WRONG_WEBS = (None, (), [], RING, [RING], (RING,) * 5, (RING, None), (None,), (RING, (RING,)), ((RING.colours, RING.ties),))
WRONG_K = (0, 4, -1, True, False, None, "1", (1,), 10 ** 99, [])
WRONG_DEPTHS = (-1, 100, True, False, None, "0", (0,), 10 ** 99, {})
PATH = path(3)


def some_webs(seed):
    """A tuple of one to three small webs with unlike many points."""
    return tuple([some_web(seed * 9 + at, (seed + 2 * at) % 5, 0.5, (-1, 0)) for at in range(seed % 3 + 1)])


class Names(unittest.TestCase):
    def test_told(self):
        for seed in range(18):
            k, webs = seed % 3 + 1, some_webs(seed)
            for depth in range(4):
                wanted = told.names(webs, k, depth)
                made = names_at(webs, k, depth)
                self.assertEqual(made, tuple(wanted))
                for web, own in zip(webs, made):
                    self.assertEqual(list(own), told.rows(web, k))
                self.assertEqual(name_number(webs, k, depth), max([max(own.values()) for own in wanted]) + 1)

    def test_marks_and_types(self):
        for seed in range(9):
            k, webs = seed % 3 + 1, some_webs(seed)
            for depth in range(3):
                marks, names = told.marks(webs, k, depth), told.names(webs, k, depth)
                for which, web in enumerate(webs):
                    for row in told.rows(web, k + 1)[::3 if k == 3 else 1]:
                        if len(row) <= k:
                            self.assertEqual(mark_of(webs, k, depth, which, row), marks[which][row])
                        else:
                            wanted = (told.atom(web, row), tuple([names[which][cut] for cut in told.cuts(row)]))
                            self.assertEqual(type_of(webs, k, depth, which, row), wanted)

    def test_marks_are_names_and_counted_types(self):
        webs, k, depth = (RING, TWO), 2, 1
        for which in (0, 1):
            for row in told.rows(webs[which], 2)[7:20]:
                name, counted = mark_of(webs, k, depth + 1, which, row)
                self.assertEqual(name, names_at(webs, k, depth)[which][row])
                types = [type_of(webs, k, depth, which, row + (point,)) for point in range(6)]
                self.assertEqual(counted, tuple([(kind, types.count(kind)) for kind in sorted(set(types))]))

    def test_no_points(self):
        for k in (1, 2, 3):
            for depth in (0, 1, 99):
                self.assertEqual(names_at((NO_WEB,), k, depth), ({(): 0},))
                self.assertEqual(name_number((NO_WEB, NO_WEB), k, depth), 1)
                self.assertEqual(mark_of((NO_WEB,), k, depth, 0, ()), ((), (), ()) if depth == 0 else (0, ()))
            self.assertEqual((stable_round((NO_WEB,), k), stable_names((NO_WEB,), k)), (0, ({(): 0},)))
            self.assertEqual(names_at((NO_WEB, DOT), k, 1)[0][()], 0)
            self.assertEqual(names_at((NO_WEB, DOT), k, 1)[1][()], 1)

    def test_one_side_up_to_four(self):
        webs = (RING, TWO, path(4), DOT)
        for many in range(1, 5):
            self.assertEqual(names_at(webs[:many], 1, 3), tuple(told.names(webs[:many], 1, 3)))
        self.assertEqual(names_at((RING,) * 4, 1, 0), ({row: len(row) for row in told.rows(RING, 1)},) * 4)

    def test_names_of_points_do_not_matter(self):
        for seed in range(9):
            k, web, names = seed % 3 + 1, some_web(seed, 5, 0.5, (0, 1)), some_names(seed, 5)
            made = names_at((web, renamed(web, names)), k, 2)
            for row in told.rows(web, k):
                self.assertEqual(made[0][row], made[1][tuple([names[point] for point in row])])

    def test_more_tokens_part_more(self):
        for seed in range(6):
            web = some_web(seed, 5, 0.5)
            for k in (1, 2):
                few, more = names_at((web,), k, 2)[0], names_at((web,), k + 1, 2)[0]
                for row in few:
                    for goal in few:
                        if len(row) == len(goal) and few[row] != few[goal]:
                            self.assertNotEqual(more[row], more[goal])


class Stable(unittest.TestCase):
    def test_stable(self):
        for seed in range(18):
            k, webs = seed % 3 + 1, some_webs(seed)
            numbers = [max([max(own.values()) for own in told.names(webs, k, depth)]) for depth in range(7)]
            stable = [at for at in range(6) if numbers[at] == numbers[at + 1]][0]
            self.assertEqual(stable_round(webs, k), stable)
            for depth in (stable, stable + 1, 99):
                self.assertEqual(stable_names(webs, k), names_at(webs, k, depth))
                self.assertEqual(name_number(webs, k, depth), numbers[stable] + 1)

    def test_long(self):
        for many in (10, 39, 40):
            self.assertEqual(stable_round((path(many),), 1), (many - 1) // 2)
        self.assertEqual(stable_round((path(40, 0),), 1), 19)
        self.assertEqual(name_number((path(40, 0),), 1, 99), 41)

    def test_mark_at_a_late_round(self):
        web = path(6)
        stable = stable_round((web,), 1)
        wanted = (stable_names((web,), 1)[0][(2,)], told.behind(web, 1, stable_names((web,), 1)[0], (2,)))
        for depth in (stable + 1, 50, 99):
            self.assertEqual(mark_of((web,), 1, depth, 0, (2,)), wanted)


class Renamings(unittest.TestCase):
    def test_renamings(self):
        for seed in range(9):
            k, webs = seed % 3 + 1, some_webs(seed)
            made = names_at(webs, k, 1)
            for numbers in (lambda name: name, lambda name: -name, lambda name: 10 ** 99 + 7 * name):
                value = tuple([{row: numbers(name) for row, name in own.items()} for own in made])
                self.assertIs(is_renaming(webs, k, 1, value), True)
                # The sequence of a dict does not matter.
                turned = tuple([dict(reversed(list(own.items()))) for own in value])
                self.assertIs(is_renaming(webs, k, 1, turned), True)
            one = tuple([{row: 0 for row in own} for own in made])
            self.assertIs(is_renaming(webs, k, 1, one), False if name_number(webs, k, 1) > 1 else True)

    def test_over_all_webs_and_lengths(self):
        webs = (DOT, DOT)
        self.assertTrue(is_renaming(webs, 1, 0, ({(): 3, (0,): 4}, {(): 3, (0,): 4})))
        for value in (({(): 3, (0,): 4}, {(): 4, (0,): 3}), ({(): 3, (0,): 4}, {(): 3, (0,): 5}),
                      ({(): 3, (0,): 3}, {(): 3, (0,): 3}), ({(): 3, (0,): 4}, {(): 5, (0,): 6})):
            self.assertFalse(is_renaming(webs, 1, 0, value))
        self.assertFalse(is_renaming((RING, TWO), 1, 1, stable_names((RING, TWO), 2)))

    def test_any_value(self):
        right = {(): 0, (0,): 1}
        self.assertTrue(is_renaming((DOT,), 1, 0, (right,)))
        for value in STRANGE + (
                right, [right], (right, right), ({(): 0, (0,): True},), ({(): False, (0,): 1},), ({(): 0},), ({(0,): 1},),
                ({(): 0, (False,): 1},), ({(): 0, (0,): 1, (1,): 2},), ({(): 0, (1,): 1},), ({(): 0, 0: 1},),
                ({(): 0, (0,): "1"},), ({(): 0, (0,): None},), ({(): 0, (0,): (1,)},), ({(): 0, (0, 0): 1},), ((),), (None,),
                ({(): 0, "a": 1},), ({(): 0, None: 1},)):
            self.assertIs(is_renaming((DOT,), 1, 0, value), False)


class Refusals(unittest.TestCase):
    CALLS = ((names_at, ()), (name_number, ()), (mark_of, (None, None)), (type_of, (None, None)), (is_renaming, (None,)))

    def test_webs_k_and_depth(self):
        for function, more in self.CALLS:
            for webs in WRONG_WEBS:
                check_refused(self, InvalidWeb(""), function, webs, None, None, *more)
            for k in WRONG_K:
                check_refused(self, InvalidNumber(k), function, (FORTY,), k, None, *more)
            for depth in WRONG_DEPTHS:
                check_refused(self, InvalidNumber(depth), function, (FORTY,), 3, depth, *more)
        for function in (stable_round, stable_names):
            for webs in WRONG_WEBS:
                check_refused(self, InvalidWeb(""), function, webs, None)
            for k in WRONG_K:
                check_refused(self, InvalidNumber(k), function, (FORTY,), k)

    def test_which_and_row(self):
        for function, many in ((mark_of, 1), (type_of, 4)):
            for which in (-1, 2, True, False, None, "0", (0,), 10 ** 99):
                check_refused(self, InvalidNumber(which), function, (FORTY, DOT), 3, 0, which, None)
            for row in (None, 0, [0], (True,) * many, (1,) * many, (-1,) * many, ("0",) * many, ((0,),) * many, (0,) * 5):
                check_refused(self, InvalidRow(""), function, (FORTY, DOT), 3, 0, 1, row)
            check_refused(self, TooMany(4096), function, (FORTY, DOT), 3, 0, 1, (0,) * many)
        for k in (1, 2, 3):
            self.assertEqual(mark_of((DOT,), k, 0, 0, (0,) * k)[0], (0,) * k)
            self.assertEqual(type_of((DOT,), k, 0, 0, (0,) * (k + 1))[1], (k,) * (k + 1))
            for row in ((0,) * (k + 1), (0,) * (k + 2)):
                check_refused(self, InvalidRow(""), mark_of, (DOT,), k, 0, 0, row)
            for row in ((), (0,) * k, (0,) * (k + 2)):
                check_refused(self, InvalidRow(""), type_of, (DOT,), k, 0, 0, row)

    def test_rows_limit(self):
        for k, within, beyond in ((1, 40, None), (2, 16, 17), (3, 8, 9)):
            web = Web((0,) * within, ())
            self.assertEqual(name_number((web,), k, 0), told_number(k))
            self.assertEqual(stable_round((web, web), k), 0)
            if beyond is None:
                continue
            webs = (DOT, full(beyond))
            for function, more in self.CALLS[:2] + self.CALLS[4:]:
                check_refused(self, TooMany(4096), function, webs, k, 0, *more)
            for function in (stable_round, stable_names):
                check_refused(self, TooMany(4096), function, webs, k)
            check_refused(self, TooMany(4096), mark_of, webs, k, 0, 0, ())
            check_refused(self, TooMany(4096), type_of, webs, k, 0, 0, (0,) * (k + 1))

    def test_results_share_nothing(self):
        first = names_at((DOT, DOT), 1, 5)
        first[0][()] = 9
        self.assertEqual(first[1], {(): 0, (0,): 1})
        self.assertEqual(names_at((DOT, DOT), 1, 5), ({(): 0, (0,): 1},) * 2)


def told_number(k):
    """How many atoms rows of at most k points of a web without ties have."""
    return {1: 2, 2: 4, 3: 9}[k]


class Untrue(unittest.TestCase):
    def test_further_webs_change_names(self):
        self.assertNotEqual(names_at((RING,), 1, 0), names_at((RING, Web((-1,), ())), 1, 0)[:1])

    def test_ties_and_colours_are_not_all(self):
        # The ends of this path have one tie each, but not what is beside them.
        web = Web((0,) * 6, ((0, 1), (1, 2), (2, 3), (2, 4), (4, 5)))
        names = stable_names((web,), 1)[0]
        self.assertEqual(web.degrees[0], web.degrees[3])
        self.assertNotEqual(names[(0,)], names[(3,)])


if __name__ == "__main__":
    unittest.main()
