"""Stage 6: alike, or apart."""
import itertools
import unittest

import told
from fivealike.colour.alike import (alike_answer, are_alike, for_ever, is_alike_answer, is_for_ever, is_ladder, is_table,
                                    least_apart, rounds_apart)
from fivealike.colour.rounds import stable_names
from fivealike.errors import InvalidNumber, InvalidWeb, TooMany
from fivealike.web.webs import Web, beside, opposite, renamed
from helper import DOT, FORTY, NO_WEB, RING, STRANGE, TWO, check_refused, full, path, ring, some_names, some_web

PAIR, LOOSE = Web((0, 0), ((0, 1),)), Web((0, 0), ())
FLAT = ({(): 0, (0,): 0, (1,): 0}, {(): 0, (0,): 0, (1,): 0})
SPLIT = ({(): 0, (0,): 1, (1,): 1}, {(): 0, (0,): 2, (1,): 2})
WRONG_K = (0, 4, -1, True, False, None, "1", (1,), 10 ** 99, [])
WRONG_DEPTHS = (-1, 100, True, False, None, "0", (0,), 10 ** 99, {})


def told_steps(one, other, k, lower, upper):
    """Whether rows with one number follow the round below, by the words of the document."""
    for first, second in itertools.product((0, 1), repeat=2):
        for row, goal in itertools.product(upper[first], upper[second]):
            if len(row) == len(goal) and upper[first][row] == upper[second][goal]:
                if lower[first][row] != lower[second][goal]:
                    return False
                webs = (one, other)
                if told.behind(webs[first], k, lower[first], row) != told.behind(webs[second], k, lower[second], goal):
                    return False
    return True


def told_atoms(one, other, numbers):
    webs = (one, other)
    return all(told.atom(webs[first], row) == told.atom(webs[second], goal)
               for first, second in itertools.product((0, 1), repeat=2)
               for row, goal in itertools.product(numbers[first], numbers[second])
               if len(row) == len(goal) and numbers[first][row] == numbers[second][goal])


def told_ladder(one, other, k, ladder):
    return (all(pair[0][()] == pair[1][()] for pair in ladder) and told_atoms(one, other, ladder[0])
            and all(told_steps(one, other, k, ladder[at], ladder[at + 1]) for at in range(len(ladder) - 1)))


def some_pairs():
    """Pairs of small webs, some of them alike for a while or for ever, and a k."""
    for seed in range(24):
        one = some_web(seed, seed % 4 + 1, 0.5, (0, 1) if seed % 5 == 0 else (0,))
        yield one, some_web(seed + 60, seed % 4 + 1, 0.5), seed % 3 + 1
    for one, other in ((RING, TWO), (path(4), beside(path(2), path(2))), (path(5, 0), path(5, 1)), (NO_WEB, DOT),
                       (NO_WEB, NO_WEB), (DOT, PAIR), (path(4), renamed(path(4), (2, 0, 3, 1)))):
        for k in (1, 2):
            yield one, other, k


class Rounds(unittest.TestCase):
    def test_told(self):
        for one, other, k in some_pairs():
            least = told.least_apart(one, other, k, 5)
            self.assertEqual(least_apart(one, other, k), least)
            for depth in range(6):
                self.assertIs(are_alike(one, other, k, depth), least is None or depth < least)
            self.assertIs(are_alike(one, other, k, 99), least is None)

    def test_all_k(self):
        for one, other, _ in some_pairs():
            self.assertEqual(rounds_apart(one, other), tuple([least_apart(one, other, k) for k in (1, 2, 3)]))

    def test_late(self):
        self.assertEqual(least_apart(path(40, 19), path(40, 17), 1), told_late(40, 19, 17))
        self.assertEqual(least_apart(path(30, 10), path(30, 12), 1), told_late(30, 10, 12))
        self.assertIsNone(least_apart(path(40, 19), path(40, 20), 1))
        self.assertIsNone(least_apart(ring(40), beside(ring(20), ring(20)), 1))

    def test_how_they_go_on(self):
        webs = [web for pair in some_pairs() for web in pair[:2] if len(web) == 4][:8]
        never = 10 ** 6
        for k in (1, 2, 3):
            table = {(a, b): least_apart(webs[a], webs[b], k) for a in range(len(webs)) for b in range(len(webs))}
            for a, b, c in itertools.product(range(len(webs)), repeat=3):
                rounds = sorted([never if table[pair] is None else table[pair] for pair in ((a, b), (b, c), (a, c))])
                self.assertEqual(rounds[0], rounds[1])
            for a, b in table:
                self.assertEqual(table[a, b], least_apart(opposite(webs[a]), opposite(webs[b]), k))
                self.assertEqual(table[a, b], least_apart(webs[a], renamed(webs[b], some_names(a, 4)), k))

    def test_first_rounds(self):
        for k in (1, 2, 3):
            self.assertEqual(least_apart(DOT, LOOSE, k), 1)
            self.assertEqual(least_apart(NO_WEB, DOT, k), 1)
            self.assertEqual(least_apart(Web((0, 1), ()), LOOSE, k), 1)
            self.assertEqual(least_apart(Web((-1,), ()), DOT, k), 1)
            self.assertEqual(least_apart(PAIR, LOOSE, k), 2)
            self.assertEqual(least_apart(path(4), Web((0,) * 4, ((0, 1), (0, 2), (0, 3))), k), 2)
            self.assertEqual(least_apart(RING, TWO, k), None if k == 1 else 3)

    def test_untrue(self):
        # Alike for k = 1, not for 2; apart, but not at the first round; as many ties, apart at the round 2.
        self.assertEqual(rounds_apart(RING, TWO), (None, 3, 3))
        one, other = Web((0, 1) * 2, ((0, 1), (2, 3))), Web((0, 1, 0, 1), ((0, 2), (1, 3)))
        self.assertEqual((one.degrees, least_apart(one, other, 1)), (other.degrees, 2))


def told_late(many, one, other):
    """The least round of two marked paths, by the colours of points refined by those near them."""
    colours = [[int(point == at) for point in range(many)] for at in (one, other)]
    for depth in range(1, many):
        told_both = [sorted(own) for own in colours]
        if told_both[0] != told_both[1]:
            return depth
        marks = [[(own[point], sorted([own[near] for near in (point - 1, point + 1) if 0 <= near < many]))
                  for point in range(many)] for own in colours]
        order = sorted([mark for own in marks for mark in own])
        colours = [[order.index(mark) for mark in own] for own in marks]
    return None


class Answers(unittest.TestCase):
    def test_ladders(self):
        for one, other, k in some_pairs():
            least = least_apart(one, other, k)
            for depth in (0, 1, 2, 3, 99):
                answer = alike_answer(one, other, k, depth)
                self.assertIs(is_alike_answer(one, other, k, depth, answer), True)
                if least is not None and least <= depth:
                    self.assertEqual(answer, ("apart", least))
                    continue
                self.assertEqual((answer[0], len(answer[1])), ("alike", depth + 1))
                self.assertIs(is_ladder(one, other, k, depth, answer[1]), True)
                if depth <= 3:
                    self.assertTrue(told_ladder(one, other, k, answer[1]))
                for pair in answer[1]:
                    self.assertEqual([list(pair[0]), list(pair[1])], [told.rows(one, k), told.rows(other, k)])

    def test_tables(self):
        for one, other, k in some_pairs():
            least = least_apart(one, other, k)
            kind, paper = answer = for_ever(one, other, k)
            self.assertIs(is_for_ever(one, other, k, answer), True)
            if least is not None:
                self.assertEqual(answer, ("apart", least))
                self.assertFalse(is_table(one, other, k, stable_names((one, other), k)))
                continue
            self.assertEqual(kind, "alike")
            self.assertIs(is_table(one, other, k, paper), True)
            self.assertTrue(told_atoms(one, other, paper) and told_steps(one, other, k, paper, paper))
            self.assertTrue(is_ladder(one, other, k, 4, (paper,) * 5))
            self.assertEqual([list(paper[0]), list(paper[1])], [told.rows(one, k), told.rows(other, k)])

    def test_nothing_is_shared(self):
        ladder = alike_answer(DOT, DOT, 1, 3)[1]
        ladder[2][0][()] = 9
        self.assertEqual([pair[0][()] for pair in ladder] + [pair[1][()] for pair in ladder], [0, 0, 9, 0, 0, 0, 0, 0])

    def test_wrong_answers(self):
        ladder, table = alike_answer(RING, TWO, 2, 2)[1], for_ever(RING, TWO, 1)[1]
        self.assertTrue(is_alike_answer(RING, TWO, 2, 2, ("alike", ladder)))
        self.assertTrue(is_for_ever(RING, TWO, 1, ("alike", table)))
        for value in STRANGE + (("alike", ladder[:2]), ("alike", ladder + ladder[2:]), ("apart", 3), ("apart", 0), ("apart", 2),
                                ("alike", table), ["alike", ladder], ("alike", list(ladder)), ("alike",), ("apart", None),
                                ("alike", ladder, ()), ("apart", ladder), (None, ladder), ("alike", 2), (RING, TWO)):
            self.assertIs(is_alike_answer(RING, TWO, 2, 2, value), False)
            self.assertIs(is_for_ever(RING, TWO, 1, value), value == ("alike", table))
        for value in (("apart", 3), ("apart", True), ("apart", 2), ("apart", 4), ("apart", 10 ** 99), ("apart", None),
                      ("alike", ladder), ("apart", "3"), ("apart", (3,)), ["apart", 3], ("apart", 3, 3)):
            self.assertIs(is_alike_answer(RING, TWO, 2, 3, value), value == ("apart", 3))
            self.assertIs(is_alike_answer(RING, TWO, 2, 99, value), value == ("apart", 3))
            self.assertIs(is_for_ever(RING, TWO, 2, value), value == ("apart", 3))
        self.assertFalse(is_alike_answer(DOT, NO_WEB, 1, 1, ("apart", True)))
        self.assertFalse(is_for_ever(DOT, NO_WEB, 1, ("apart", True)))
        self.assertTrue(is_for_ever(DOT, NO_WEB, 1, ("apart", 1)))


class Ladders(unittest.TestCase):
    def test_all_numbers_of_small_webs(self):
        """Each way to number the rows of two small webs with few numbers, judged by the words."""
        rows = ((), (0,), (1,))
        for one, other in ((PAIR, PAIR), (PAIR, LOOSE), (Web((0, 1), ()), LOOSE)):
            dicts = [dict(zip(rows, (0,) + numbers)) for numbers in itertools.product(range(3), repeat=2)]
            pairs = list(itertools.product(dicts, repeat=2))
            for pair in pairs:
                right = told_atoms(one, other, pair) and told_steps(one, other, 1, pair, pair)
                self.assertIs(is_table(one, other, 1, pair), right)
                self.assertIs(is_ladder(one, other, 1, 0, (pair,)), told_atoms(one, other, pair))
            for lower, upper in itertools.product(pairs[::2], pairs[::3]):
                self.assertIs(is_ladder(one, other, 1, 1, (lower, upper)), told_ladder(one, other, 1, (lower, upper)))

    def test_other_numbers(self):
        for one, other, k in some_pairs():
            answer = alike_answer(one, other, k, 2)
            if answer[0] == "apart":
                continue
            # Unlike long rows may share numbers, and these can be of any length, others at each round.
            ladder = tuple([tuple([{row: (-1) ** at * (number - first[len(row)]) * 10 ** 50 for row, number in own.items()}
                                   for own in pair])
                            for at, pair in enumerate(answer[1]) for first in [least_by_length(pair)]])
            self.assertIs(is_ladder(one, other, k, 2, ladder), True)
            self.assertIs(is_alike_answer(one, other, k, 2, ("alike", ladder)), True)
            for at in range(3):
                wrong = ladder[:at] + ((ladder[at][0], {**ladder[at][1], (): 7}),) + ladder[at + 1:]
                self.assertIs(is_ladder(one, other, k, 2, wrong), False)

    def test_finer_ladders(self):
        one = path(3)
        finer = tuple([{row: at for at, row in enumerate(told.rows(one, 2))}] * 2)
        self.assertTrue(is_table(one, one, 2, finer))
        self.assertTrue(is_ladder(one, one, 2, 5, (finer,) * 6))
        # What is one below may be parted above, not the other way round.
        self.assertTrue(is_ladder(PAIR, PAIR, 1, 2, (FLAT, FLAT, SPLIT)))
        self.assertFalse(is_ladder(PAIR, PAIR, 1, 3, (FLAT, FLAT, SPLIT, FLAT)))
        self.assertFalse(is_ladder(PAIR, PAIR, 1, 3, (FLAT, SPLIT, SPLIT, SPLIT)))
        self.assertFalse(is_ladder(PAIR, PAIR, 1, 4, (FLAT, FLAT, SPLIT, SPLIT, SPLIT)))

    def test_untrue(self):
        # A ladder to a depth that is the beginning of none to the next depth.
        self.assertTrue(is_ladder(PAIR, PAIR, 1, 1, (FLAT, SPLIT)))
        rows = ((), (0,), (1,))
        dicts = [dict(zip(rows, numbers)) for numbers in itertools.product(range(3), repeat=3)]
        for pair in itertools.product(dicts, repeat=2):
            self.assertFalse(is_ladder(PAIR, PAIR, 1, 2, (FLAT, SPLIT, pair)))
        # A table of a web and itself with one integer for all points.
        self.assertTrue(is_table(PAIR, PAIR, 1, FLAT))

    def test_any_value(self):
        first, second = FLAT
        wrong = STRANGE + (FLAT[:1], list(FLAT), FLAT + (first,), (first, {}), (first, None), ({**first, (0,): True}, second),
                           ({**first, (): False}, second), ({(): 0, (False,): 0, (1,): 0}, second),
                           ({(): 0, (0,): 0, (True,): 0}, second), ({**first, (2,): 0}, second), ({(): 0, (0,): 0}, second),
                           ({(): 0, (0,): 0, (2,): 0}, second), ({**first, (0,): None}, second), ({**first, (0,): "0"}, second),
                           ({(): 0, (0,): 0, 1: 0}, second), ({(): 0, (0,): 0, (0, 1): 0}, second), ((), ()),
                           ({**first, (): (0,)}, {**second, (): (0,)}), (list(first), list(second)))
        for value in wrong:
            self.assertIs(is_table(PAIR, PAIR, 1, value), False)
            self.assertIs(is_ladder(PAIR, PAIR, 1, 0, (value,)), False)
            self.assertIs(is_ladder(PAIR, PAIR, 1, 0, value), False)
            self.assertIs(is_ladder(PAIR, PAIR, 1, 1, (FLAT, value)), False)
        self.assertTrue(is_ladder(PAIR, PAIR, 1, 0, (FLAT,)))
        for value in ((), (FLAT,) * 2, [FLAT], FLAT):
            self.assertIs(is_ladder(PAIR, PAIR, 1, 0, value), False)

    def test_greatest_depth(self):
        ladder = alike_answer(RING, TWO, 1, 99)[1]
        self.assertEqual(len(ladder), 100)
        self.assertTrue(is_ladder(RING, TWO, 1, 99, ladder))
        self.assertFalse(is_ladder(RING, TWO, 1, 98, ladder) or is_ladder(RING, TWO, 1, 99, ladder[1:]))
        mixed = {**ladder[60][0], (3,): 7}
        self.assertFalse(is_ladder(RING, TWO, 1, 99, ladder[:60] + ((mixed, ladder[60][1]),) + ladder[61:]))


def least_by_length(pair):
    least = {}
    for own in pair:
        for row, number in own.items():
            least[len(row)] = min(number, least.get(len(row), number))
    return least


class Refusals(unittest.TestCase):
    DEEP = ((alike_answer, ()), (are_alike, ()), (is_alike_answer, (None,)), (is_ladder, (None,)))
    FLAT = ((for_ever, ()), (least_apart, ()), (is_for_ever, (None,)), (is_table, (None,)))

    def test_wrong_arguments(self):
        for function, more in tuple([(function, (None,) + more) for function, more in self.DEEP]) + self.FLAT:
            for web in STRANGE:
                check_refused(self, InvalidWeb(""), function, web, None, None, *more)
                check_refused(self, InvalidWeb(""), function, web, FORTY, None, *more)
                check_refused(self, InvalidWeb(""), function, FORTY, web, None, *more)
            for k in WRONG_K:
                check_refused(self, InvalidNumber(k), function, FORTY, FORTY, k, *more)
        for function, more in self.DEEP:
            for depth in WRONG_DEPTHS:
                check_refused(self, InvalidNumber(depth), function, FORTY, FORTY, 3, depth, *more)
        check_refused(self, InvalidWeb(""), rounds_apart, None, FORTY)
        check_refused(self, InvalidWeb(""), rounds_apart, FORTY, None)

    def test_rows_limit(self):
        for k, within, beyond in ((2, 16, 17), (3, 8, 9)):
            for one, other in ((full(beyond), DOT), (DOT, full(beyond))):
                for function, more in self.DEEP:
                    check_refused(self, TooMany(4096), function, one, other, k, 0, *more)
                for function, more in self.FLAT:
                    check_refused(self, TooMany(4096), function, one, other, k, *more)
            self.assertIsNone(least_apart(full(within), full(within), k))
        check_refused(self, TooMany(4096), rounds_apart, full(9), DOT)
        check_refused(self, TooMany(4096), rounds_apart, DOT, full(9))
        self.assertEqual(rounds_apart(full(8), full(8)), (None,) * 3)
        self.assertIsNone(least_apart(FORTY, FORTY, 1))


if __name__ == "__main__":
    unittest.main()
