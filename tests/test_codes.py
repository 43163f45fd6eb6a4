"""Stage 20: codes, classes and parting trees."""
import itertools
import unittest

import told
from fivealike.colour import codes
from fivealike.colour.alike import are_alike, least_apart
from fivealike.colour.codes import apart_table, classes, code_of, parting_tree, tree_classes
from fivealike.errors import InvalidNumber, InvalidOperation, InvalidWeb, TooMany
from fivealike.twist.twisted import twisted
from fivealike.web.webs import Web, beside, renamed
from helper import DOT, FORTY, NO_WEB, RING, STRANGE, TWO, check_refused, full, path, ring, some_names, some_web

TIED, LOOSE = Web((0, 0), ((0, 1),)), Web((0, 0), ())
WRONG_K = (0, 4, -1, True, False, None, "1", (1,), 10 ** 99)
WRONG_DEPTHS = (-1, 100, True, False, None, "0", (0,), 10 ** 99)


def told_seen(web, k, depth):
    """For each round the set of the rows that are seen, by the words."""
    seen = {depth: {()}}
    for at in reversed(range(depth)):
        rows = set(seen[at + 1])
        for row, point in itertools.product(seen[at + 1], range(len(web))):
            rows.update([row + (point,)] if len(row) < k else told.cuts(row + (point,)))
        seen[at] = rows
    return seen


def told_code(web, k, depth):
    """The code by the words."""
    seen = told_seen(web, k, depth)
    levels = []
    index = {}
    for at in range(depth + 1):
        marks = {row: told.atom(web, row) if at == 0 else (index[row], told.behind(web, k, index, row)) for row in seen[at]}
        level = sorted({(len(row), mark) for row, mark in marks.items()})
        index = {row: level.index((len(row), mark)) for row, mark in marks.items()}
        levels.append(tuple(level))
    return tuple(levels)


def told_tree(webs, k, indices, begun=0):
    """The parting tree by the words, rounds being looked at one by one."""
    for at in range(begun, 100):
        lots = []
        for index in indices:
            fit = [lot for lot in lots if are_alike(webs[lot[0]], webs[index], k, at)]
            if fit:
                fit[0].append(index)
            else:
                lots.append([index])
        if len(lots) > 1:
            return (at, tuple([told_tree(webs, k, lot, at + 1) for lot in lots]))
    return tuple(indices)


def some_families():
    """Families of webs, and a k."""
    late = tuple([path(9, at) for at in range(9)])
    yield from [((TIED, LOOSE, DOT, TIED), 1), ((RING, TWO), 1), ((RING, TWO), 2), ((NO_WEB,), 3), ((NO_WEB, DOT, NO_WEB), 2), (late, 1), (late[:4] + late[:2], 2),
                ((DOT,) * 12, 1), (tuple([some_web(seed, 4, 0.5) for seed in range(12)]), 2), (tuple([some_web(seed, 3, 0.5) for seed in range(9)]), 3),
                (tuple([renamed(path(5, seed % 3), some_names(seed, 5)) for seed in range(8)]), 1),
                ((ring(8), beside(ring(4), ring(4)), beside(ring(3), ring(5)), path(8), ring(8)), 2),
                ((twisted(full(3), ()), twisted(full(3), ((0, 1),)), twisted(full(3), ((0, 1), (1, 2))), RING), 1),
                ((twisted(full(3), ()), twisted(full(3), ((0, 1),)), twisted(full(3), ((0, 1), (1, 2))), RING), 2)]
    for seed in range(6):
        yield tuple([some_web(seed * 20 + at, (seed + at) % 4, 0.5, (0, 1) if at % 3 == 0 else (0,)) for at in range(seed + 2)]), seed % 3 + 1


class Codes(unittest.TestCase):
    def test_told(self):
        webs = [NO_WEB, DOT, TIED, LOOSE, path(3), path(4, 1), full(4)] + [some_web(seed, seed % 5, 0.5, (-1, 0)) for seed in range(12)]
        for web in webs:
            for k in (1, 2, 3):
                for depth in (0, 1, 2, 3, 4, 5):
                    self.assertEqual(code_of(web, k, depth), told_code(web, k, depth))
        self.assertEqual(code_of(RING, 2, 4), told_code(RING, 2, 4))

    def test_form(self):
        for k in (1, 2, 3):
            for depth in (0, 1, 7, 99):
                code = code_of(path(5), k, depth)
                self.assertEqual(len(code), depth + 1)
                self.assertEqual([length for length, _ in code[-1]], [0])
                for at, level in enumerate(code):
                    self.assertEqual(list(level), sorted(set(level)))
                    self.assertLessEqual({length for length, _ in level}, set(range(min(k, depth - at) + 1)))

    def test_no_points(self):
        self.assertEqual(code_of(NO_WEB, 2, 0), (((0, ((), (), ())),),))
        self.assertEqual(code_of(NO_WEB, 3, 2), (((0, ((), (), ())),), ((0, (0, ())),), ((0, (0, ())),)))

    def test_late_rounds(self):
        web = path(7, 3)
        self.assertEqual(code_of(web, 1, 12), told_code(web, 1, 12))
        code = code_of(path(40), 1, 99)
        self.assertEqual(code[50], code[60])
        self.assertEqual(code_of(path(40), 1, 25), told_code(path(40), 1, 25))

    def test_equal_codes(self):
        """Equal just where the webs are alike to the depth."""
        webs = [RING, TWO, NO_WEB, DOT, path(4), beside(path(2), path(2)), path(5, 0), path(5, 1), Web((0,) * 4, ((0, 1), (0, 2), (0, 3))),
                renamed(path(4), (2, 0, 3, 1)), twisted(full(3), ()), twisted(full(3), ((0, 1),)), path(4, 2), Web((-1,) * 4, path(4).ties)]
        for k in (1, 2, 3):
            for one, other in itertools.combinations(webs, 2):
                if k == 3 and max(len(one), len(other)) > 5:
                    continue
                for depth in (0, 1, 2, 3, 4, 99):
                    self.assertIs(code_of(one, k, depth) == code_of(other, k, depth), are_alike(one, other, k, depth))

    def test_what_codes_tell(self):
        """Webs with one code have one for lesser depths and for lesser k."""
        webs = [some_web(seed, 4, 0.5) for seed in range(14)]
        for one, other in itertools.combinations(webs, 2):
            for k, depth in ((3, 3), (2, 3), (2, 2)):
                if code_of(one, k, depth) == code_of(other, k, depth):
                    for less, lower in itertools.product(range(1, k + 1), range(depth + 1)):
                        self.assertEqual(code_of(one, less, lower), code_of(other, less, lower))

    def test_untrue(self):
        # One code at the depths that were tried, though not the same; the level 0 lacks atoms of pairs.
        self.assertEqual(code_of(RING, 1, 99), code_of(TWO, 1, 99))
        self.assertEqual([length for length, _ in code_of(TIED, 2, 1)[0]], [0, 1])

    def test_refusals(self):
        for web in STRANGE:
            check_refused(self, InvalidWeb(""), code_of, web, None, None)
        for k in WRONG_K:
            check_refused(self, InvalidNumber(k), code_of, FORTY, k, None)
        for depth in WRONG_DEPTHS:
            check_refused(self, InvalidNumber(depth), code_of, FORTY, 3, depth)
        for k, within in ((1, 40), (2, 16), (3, 8)):
            self.assertEqual(len(code_of(full(within), k, 3)), 4)
            if within < 40:
                check_refused(self, TooMany(4096), code_of, full(within + 1), k, 0)


class Families(unittest.TestCase):
    def test_constant(self):
        self.assertEqual(codes.MOST_FAMILY, 12)

    def test_tables_and_classes(self):
        for webs, k in some_families():
            many = len(webs)
            table = tuple([tuple([least_apart(one, other, k) for other in webs]) for one in webs])
            self.assertEqual(apart_table(webs, k), table)
            for depth in (0, 1, 2, 3, 4, 9, 99):
                wanted = tuple([min([there for there in range(many) if are_alike(webs[here], webs[there], k, depth)]) for here in range(many)])
                self.assertEqual(classes(webs, k, depth), wanted)

    def test_trees(self):
        for webs, k in some_families():
            tree = parting_tree(webs, k)
            self.assertEqual(tree, told_tree(webs, k, list(range(len(webs)))))
            for depth in (0, 1, 2, 3, 4, 5, 99):
                told_classes = classes(webs, k, depth)
                lots = [tuple([at for at, least in enumerate(told_classes) if least == own]) for own in sorted(set(told_classes))]
                self.assertEqual(tree_classes(tree, depth), tuple(sorted(lots)))

    def test_late(self):
        webs = (path(40, 19), path(40, 17), path(40, 20), path(40, 1))
        least = least_apart(webs[0], webs[1], 1)
        self.assertGreater(least, 8)
        self.assertEqual(apart_table(webs, 1)[0], (None, least, None, least_apart(webs[0], webs[3], 1)))

    def test_untrue(self):
        # A parting tree with three parts.
        self.assertEqual(parting_tree((NO_WEB, DOT, TIED), 1), (1, ((0,), (1,), (2,))))

    def test_refusals(self):
        calls = ((classes, (None, None)), (apart_table, (None,)), (parting_tree, (None,)))
        for function, more in calls:
            for webs in (None, (), [], RING, [RING], (RING,) * 13, (RING, None), (RING,) * 11 + ((0,),), ((RING.colours, RING.ties),), {}, "", 0):
                check_refused(self, InvalidWeb(""), function, webs, *more)
            for k in WRONG_K:
                check_refused(self, InvalidNumber(k), function, (FORTY,), k, *more[1:])
        for depth in WRONG_DEPTHS:
            check_refused(self, InvalidNumber(depth), classes, (FORTY,), 3, depth)
        for k, within in ((2, 16), (3, 8)):
            webs = (DOT,) * 11
            check_refused(self, TooMany(4096), classes, webs + (full(within + 1),), k, 0)
            check_refused(self, TooMany(4096), apart_table, webs + (full(within + 1),), k)
            check_refused(self, TooMany(4096), parting_tree, (full(within + 1),) + webs, k)
            self.assertEqual(parting_tree(webs + (full(within),), k), (1, (tuple(range(11)), (11,))))
        self.assertEqual(classes((FORTY,) * 12, 1, 99), (0,) * 12)


class TreeClasses(unittest.TestCase):
    def test_right_trees(self):
        tree = (1, ((2, ((0, 3), (7, ((1,), (5,))))), (2, 4)))
        wanted = {0: ((0, 1, 2, 3, 4, 5),), 1: ((0, 1, 3, 5), (2, 4)), 2: ((0, 3), (1, 5), (2, 4)), 6: ((0, 3), (1, 5), (2, 4)),
                  7: ((0, 3), (1,), (2, 4), (5,)), 99: ((0, 3), (1,), (2, 4), (5,))}
        for depth, lots in wanted.items():
            self.assertEqual(tree_classes(tree, depth), lots)
        self.assertEqual(tree_classes((0,), 5), ((0,),))
        self.assertEqual(tree_classes(tuple(range(12)), 99), (tuple(range(12)),))
        self.assertEqual(tree_classes((999999999, ((0,), (1,))), 99), ((0, 1),))
        self.assertEqual(tree_classes((100, ((0,), (1,))), 99), ((0, 1),))
        self.assertEqual(len(tree_classes((3, tuple([(at,) for at in range(12)])), 3)), 12)
        chain = (11,)
        for at in reversed(range(11)):
            chain = (at + 1, ((at,), chain))
        self.assertEqual([len(tree_classes(chain, depth)) for depth in range(12)], list(range(1, 13)))

    def test_wrong_trees(self):
        wrong = STRANGE + ((1,), (0, 2), (1, 0), (0, 0), tuple(range(13)), (True,), (False,), (0, True), [0], (0, "1"),
                           (1, ((0,),)), (1, ()), (0, ((0,), (1,))), (-1, ((0,), (1,))), (True, ((0,), (1,))), ("1", ((0,), (1,))), (1, [(0,), (1,)]),
                           (1, ((1,), (0,))), (1, ((0,), (2,))), (1, ((0,), (0,))), (1, ((0,), (1,), (1,))), (1, ((0,), (1,)), ()), (1, ((0,), ())),
                           (2, ((1, ((0,), (1,))), (2,))), (2, ((2, ((0,), (1,))), (2,))), (1, ((2, ((0,), (1,))), (1,))), (1, ((0, 2), (1, 1))),
                           (1, ((0,), [1])), (1, (0, 1)), (1000000000, ((0,), (1,))), (10 ** 99, ((0,), (1,))), (1, ((0,), (False,))),
                           (1, tuple([(at,) for at in range(13)])), (1, ((0,), (2, ((1,),)))), (1, ((0, 1), (2, ((2,), None)))), (None, ((0,), (1,))))
        for value in wrong:
            check_refused(self, InvalidOperation(""), tree_classes, value, None)

    def test_depths(self):
        for depth in WRONG_DEPTHS:
            check_refused(self, InvalidNumber(depth), tree_classes, (0,), depth)


if __name__ == "__main__":
    unittest.main()
