"""Stage 9: sentences that part."""
import itertools
import random
import unittest

import told
from fivealike.colour.alike import alike_answer, is_ladder, least_apart
from fivealike.errors import InvalidNumber, InvalidOperation, InvalidRow, InvalidSentence, InvalidWeb, TooMany
from fivealike.say.parting import (agree, is_name_line, is_parting_answer, is_parting_sentence, least_depth, name_line,
                                   parting_answer, parting_sentence)
from fivealike.say.sentences import depths, free_names, is_saying, is_sentence, is_true, not_of
from fivealike.web.webs import Web, beside, renamed
from helper import (DOT, FORTY, NO_WEB, RING, STRANGE, TWO, check_refused, full, path, ring, some_names, some_web,
                    twisted)
from test_sentences import NEAR, TRIANGLE, TRUE, WRONG_K, closed, some_saying

PAIR, LOOSE = Web((0, 0), ((0, 1),)), Web((0, 0), ())
STAR = Web((0, 0, 5, 5), ((0, 1), (0, 2), (0, 3)))
TRI = full(3)
SPIDER = Web((0,) * 7, ((0, 1), (0, 3), (0, 5), (1, 2), (3, 4), (5, 6)))
WRONG_WEBS = (None, (), [], RING, [RING], (RING,) * 5, (RING, None), (None,))
WRONG_DEPTHS = (-1, 100, True, False, None, "0", (0,), 10 ** 99)


def moved_tie(web):
    """The web with one of its ties at another place."""
    gone = web.ties[len(web.ties) // 2]
    pairs = [pair for pair in itertools.combinations(range(len(web)), 2) if pair not in web.ties]
    return Web(web.colours, tuple(sorted(set(web.ties) - {gone} | {pairs[len(pairs) // 2]})))


def some_pairs():
    """Pairs of webs and a k: small ones, renamed, one tie changed, late ones, twisted ones, alike ones."""
    for seed in range(30):
        k = seed % 3 + 1
        many = seed % 4 + 1
        one = some_web(seed, many, 0.5, (0,) if seed % 4 else (0, 1, -1))
        yield one, some_web(seed + 90, many if seed % 5 else 3, 0.5), k
        yield one, renamed(one, some_names(seed, many)), k
    for seed in range(6):
        one = some_web(seed, 6, 0.5)
        yield one, moved_tie(one), seed % 3 + 1
    yield from [(RING, TWO, 1), (RING, TWO, 2), (RING, TWO, 3), (NO_WEB, NO_WEB, 1), (NO_WEB, DOT, 2), (DOT, NO_WEB, 3),
                (path(12, 5), path(12, 4), 1), (path(12), beside(path(5), ring(7)), 1), (path(9, 2), path(9, 3), 2),
                (ring(8), beside(ring(4), ring(4)), 2), (ring(7), beside(ring(3), ring(4)), 2), (DOT, Web((1,), ()), 1),
                (twisted(TRI, ()), twisted(TRI, ((0, 1),)), 1), (twisted(TRI, ()), twisted(TRI, ((0, 1),)), 2),
                (twisted(SPIDER, ()), twisted(SPIDER, ((0, 1),)), 1), (PAIR, LOOSE, 1), (path(4), beside(path(2), path(2)), 1)]


def told_named(webs, k, depth, row, line):
    """Whether a saying's last line is true just with the rows that have the name of this one, by the words."""
    names = told.names(webs, k, depth)
    free = sorted(told.free(line)[-1])
    for web, own in zip(webs, names):
        for goal in itertools.product(range(len(web)), repeat=len(row)):
            true = told.is_line_true(line, len(line) - 1, {name: goal[name] for name in free}, web)
            if true != (own[goal] == names[0][row]):
                return False
    return True


class Parting(unittest.TestCase):
    def test_answers(self):
        for one, other, k in some_pairs():
            least = least_apart(one, other, k)
            self.assertEqual(least_depth(one, other, k), least)
            for depth in (0, 1, 2, 3, 99) if least is None else sorted({0, least - 1, least, least + 1, 99}):
                kind, paper = answer = parting_answer(one, other, k, depth)
                self.assertIs(is_parting_answer(one, other, k, depth, answer), True)
                if least is None or depth < least:
                    self.assertEqual(kind, "alike")
                    self.assertIs(is_ladder(one, other, k, depth, paper), True)
                    continue
                self.assertEqual(kind, "apart")
                self.assertIs(is_sentence(k, paper), True)
                self.assertLessEqual(told.line_depths(paper)[-1], depth)
                if len(one) < 8:
                    self.assertNotEqual(told.holds(paper, one), told.holds(paper, other))

    def test_sentences(self):
        for one, other, k in some_pairs():
            least = least_apart(one, other, k)
            for first, second in ((one, other), (other, one)):
                sentence = parting_sentence(first, second, k)
                self.assertIs(is_parting_sentence(first, second, k, sentence), True)
                self.assertIs(sentence is None, least is None)
                if sentence is None:
                    continue
                self.assertEqual(depths(k, sentence)[-1], least)
                self.assertTrue(is_true(k, sentence, first) and not is_true(k, sentence, second))
                self.assertFalse(is_parting_sentence(second, first, k, sentence))
                self.assertTrue(is_parting_sentence(second, first, k, not_of(k, sentence)))
                self.assertFalse(is_parting_answer(one, other, k, least - 1, ("apart", sentence)))
                self.assertTrue(is_parting_answer(one, other, k, least + 1, ("apart", sentence)))

    def test_small_webs_have_short_ones(self):
        for seed in range(60):
            k = seed % 3 + 1
            webs = [some_web(seed * 3 + at, 3, 0.5, ((0,), (0, 1), (-1, 0, 3))[seed % 3]) for at in (0, 1)]
            sentence = parting_sentence(webs[0], webs[1], k)
            self.assertIs(is_parting_sentence(webs[0], webs[1], k, sentence), True)

    def test_late_ones(self):
        for one, other, k in ((path(40, 19), path(40, 17), 1), (path(40, 10), path(40, 12), 1), (path(30, 14), path(30, 13), 1),
                              (path(16, 7), path(16, 6), 2), (ring(16), beside(ring(7), ring(9)), 2),
                              (ring(8), beside(ring(4), ring(4)), 3)):
            sentence = parting_sentence(one, other, k)
            self.assertIs(is_parting_sentence(one, other, k, sentence), True)
            self.assertLessEqual(len(sentence), 2000)

    def test_wrong_answers(self):
        right = parting_sentence(RING, TWO, 2)
        self.assertTrue(is_parting_sentence(RING, TWO, 2, right))
        deeper = right + (("all", ()), ("least", 1, 0, len(right)), ("least", 1, 1, len(right) + 1),
                          ("least", 1, 2, len(right) + 2), ("least", 1, 0, len(right) + 3), ("all", (len(right) - 1, len(right) + 4)))
        self.assertEqual(depths(2, deeper)[-1], 4)
        self.assertTrue(is_true(2, deeper, RING) and not is_true(2, deeper, TWO))
        for value in STRANGE[1:] + (deeper, right[:-1], right[1:], list(right), (right,), TRIANGLE, TRUE, (("some", ()),),
                                    right + (("not", len(right) - 1),), ("apart", right), right * 2001):
            self.assertIs(is_parting_sentence(RING, TWO, 2, value), False)
        self.assertIs(is_parting_sentence(RING, TWO, 2, None), False)
        self.assertIs(is_parting_sentence(RING, TWO, 1, None), True)
        self.assertIs(is_parting_sentence(RING, TWO, 1, right), False)
        self.assertIs(is_parting_sentence(RING, TWO, 3, right), True)
        for value in STRANGE + (("apart", deeper), ("apart", None), ("apart", ()), ["apart", right], ("apart", right, ()),
                                ("alike", right), ("apart", TRUE), ("apart", right[:-1]), ("apart",), right,
                                ("alike", alike_answer(RING, TWO, 2, 2)[1])):
            self.assertIs(is_parting_answer(RING, TWO, 2, 3, value), False)
        for value in (right, TRIANGLE, not_of(2, TRIANGLE), not_of(2, right)):
            self.assertIs(is_parting_answer(RING, TWO, 2, 3, ("apart", value)), True)
            self.assertIs(is_parting_answer(RING, TWO, 2, 2, ("apart", value)), False)
        self.assertIs(is_parting_answer(RING, TWO, 2, 4, ("apart", deeper)), True)
        ladder = alike_answer(RING, TWO, 2, 2)[1]
        for value, is_right in ((ladder, True), (ladder[:2], False), (ladder + ladder[2:], False), (list(ladder), False)):
            self.assertIs(is_parting_answer(RING, TWO, 2, 2, ("alike", value)), is_right)
        # A line that is not needed can be deeper: the depth is that of the last one.
        shallow = deeper[:-1] + (("not", len(right) - 1),)
        self.assertTrue(is_parting_sentence(TWO, RING, 2, shallow))

    def test_untrue(self):
        # A sentence of the depth 1 does not tell whether there are ties.
        for seed in range(40):
            sentence = closed(some_saying(seed, 2, 8), 2)
            if depths(2, sentence)[-1] <= 1:
                self.assertEqual(agree(PAIR, LOOSE, 2, (sentence,)), (True,))


class Names(unittest.TestCase):
    def test_told(self):
        for seed in range(60):
            k = seed % 3 + 1
            source = random.Random(seed)
            webs = tuple([some_web(seed * 5 + at, source.randrange(0 if at else 1, 4), 0.5, ((0,), (-1, 0, 4))[seed % 2])
                          for at in range(seed % 4 + 1)])
            row = tuple([source.randrange(len(webs[0])) for _ in range(source.randrange(k + 1))])
            for depth in (0, 1, 2, 99):
                line = name_line(webs, k, depth, row)
                self.assertTrue(is_saying(k, line))
                self.assertLessEqual(depths(k, line)[-1], depth)
                self.assertTrue(all(name < len(row) for name in free_names(k, line)[-1]))
                self.assertIs(is_name_line(webs, k, depth, row, line), True)
                if depth <= 2:
                    self.assertTrue(told_named(webs, k, depth, row, line))

    def test_no_points(self):
        for webs in ((NO_WEB,), (NO_WEB, DOT), (NO_WEB, NO_WEB, RING)):
            line = name_line(webs, 2, 3, ())
            self.assertIs(is_name_line(webs, 2, 3, (), line), True)
            self.assertTrue(told_named(webs, 2, 3, (), line))

    def test_larger(self):
        for one, other, k, depth, row in ((RING, TWO, 2, 3, (0, 1)), (path(20), path(19), 1, 99, (4,)),
                                          (some_web(5, 7), some_web(6, 7), 2, 99, (3, 6)), (path(30, 3), path(30), 1, 99, (9,)),
                                          (some_web(7, 8), some_web(8, 8), 3, 4, (1, 5, 2)), (FORTY, DOT, 1, 5, (39,)),
                                          (twisted(TRI, ()), twisted(TRI, ((0, 1),)), 2, 3, (4,))):
            line = name_line((one, other), k, depth, row)
            self.assertIs(is_name_line((one, other), k, depth, row, line), True)

    def test_one_truth_for_one_name(self):
        """Each line of a depth of at most s has one truth with rows of one name at s."""
        for seed in range(60):
            k = seed % 3 + 1
            webs = (some_web(seed, 4, 0.5), some_web(seed + 9, 3, 0.5))
            saying = some_saying(seed + 200, k, 9)
            free = sorted(told.free(saying)[-1])
            depth = told.line_depths(saying)[-1]
            if len(free) > k or depth > 3:
                continue
            names = told.names(webs, k, depth)
            truths = {}
            for web, own in zip(webs, names):
                for row in itertools.product(range(len(web)), repeat=len(free)):
                    true = told.is_line_true(saying, len(saying) - 1, dict(zip(free, row)), web)
                    self.assertIs(truths.setdefault(own[row], true), true)

    def test_judge(self):
        webs, row = (STAR, PAIR), (0,)
        right = name_line(webs, 1, 1, row)
        self.assertTrue(is_name_line(webs, 1, 1, row, right) and is_name_line((STAR,), 1, 1, row, NEAR))
        for value in STRANGE + ((), right[:-1] + (("some", ()),), list(right), (("all", ()),), (("colour", 0, 0),), right * 2001,
                                right + (("not", len(right) - 1),), (("tie", 0, 1),), TRIANGLE,
                                (("tie", 0, 1), ("least", 3, 0, 0))):
            self.assertIs(is_name_line(webs, 1, 1, row, value), False)
        # Too deep, though true just there; and the same once more, as deep as is let.
        deep = right + (("least", 1, 1, len(right) - 1), ("least", 1, 1, len(right)))
        self.assertEqual(depths(1, deep)[-1], 3)
        self.assertTrue(told_named(webs, 1, 1, row, deep))
        self.assertEqual([is_name_line(webs, 1, depth, row, deep) for depth in (1, 2, 3)], [False, False, True])
        # A free name beyond the places.
        bent = (("tie", 0, 1), ("least", 3, 0, 0), ("all", ()))
        self.assertFalse(is_name_line((STAR,), 1, 1, (0,), bent[:2]))
        # Not all places need to be free.
        self.assertTrue(is_name_line((DOT,), 2, 3, (0, 0), (("all", ()),)))
        self.assertTrue(is_name_line((PAIR,), 2, 3, (0, 1), (("tie", 0, 1),)))
        self.assertFalse(is_name_line((PAIR,), 2, 3, (0, 1), (("tie", 0, 2),)))
        self.assertTrue(is_name_line((Web((0, 0, 0), ()),), 2, 0, (0, 1), (("same", 0, 1), ("not", 0))))
        self.assertFalse(is_name_line((path(3),), 2, 0, (0, 1), (("same", 0, 1), ("not", 0))))
        # In each of the webs.
        self.assertTrue(is_name_line((PAIR, RING), 1, 0, (0,), (("colour", 0, 0),)))
        self.assertTrue(is_name_line((PAIR, Web((0, 3), ())), 1, 0, (0,), (("colour", 0, 0),)))
        self.assertFalse(is_name_line((PAIR, Web((0, 3), ())), 1, 0, (0,), (("all", ()),)))


class Agreement(unittest.TestCase):
    def test_told(self):
        for seed in range(12):
            k = seed % 3 + 1
            one, other = some_web(seed, 3, 0.5), some_web(seed + 40, 3, 0.5)
            sentences = tuple([closed(some_saying(seed * 20 + at, k, 7), k) for at in range(20)])
            wanted = tuple([told.holds(sentence, one) == told.holds(sentence, other) for sentence in sentences])
            self.assertEqual(agree(one, other, k, sentences), wanted)
        self.assertEqual(agree(RING, TWO, 1, ()), ())

    def test_wrong_arguments(self):
        for value in STRANGE[:6] + STRANGE[7:] + (TRUE, [TRUE], (TRUE,) * 21, (TRUE, NEAR), (TRUE, None), ((),)):
            check_refused(self, InvalidSentence(""), agree, FORTY, FORTY, 2, value)
        self.assertEqual(agree(RING, TWO, 2, (TRUE,) * 20), (True,) * 20)


class Refusals(unittest.TestCase):
    DEEP = ((parting_answer, ()), (is_parting_answer, (None,)))
    FLAT = ((parting_sentence, ()), (is_parting_sentence, (None,)), (least_depth, ()), (agree, (None,)))

    def test_wrong_arguments(self):
        for function, more in tuple([(function, (None,) + more) for function, more in self.DEEP]) + self.FLAT:
            for web in STRANGE:
                check_refused(self, InvalidWeb(""), function, web, FORTY, None, *more)
                check_refused(self, InvalidWeb(""), function, FORTY, web, None, *more)
            for k in WRONG_K:
                check_refused(self, InvalidNumber(k), function, FORTY, FORTY, k, *more)
        for function, more in self.DEEP:
            for depth in WRONG_DEPTHS:
                check_refused(self, InvalidNumber(depth), function, FORTY, FORTY, 3, depth, *more)

    def test_name_lines(self):
        for function, more in ((name_line, ()), (is_name_line, (None,))):
            for webs in WRONG_WEBS:
                check_refused(self, InvalidWeb(""), function, webs, None, None, None, *more)
            for k in WRONG_K:
                check_refused(self, InvalidNumber(k), function, (FORTY,), k, None, None, *more)
            for depth in WRONG_DEPTHS:
                check_refused(self, InvalidNumber(depth), function, (FORTY,), 3, depth, None, *more)
            for row in (None, 0, [0], (40,), (-1,), (True,), ("0",), (0,) * 5, (10 ** 99,)):
                check_refused(self, InvalidRow(""), function, (FORTY, DOT), 3, 0, row, *more)
            for k in (1, 2, 3):
                for many in range(k + 1, 5):
                    check_refused(self, InvalidOperation(""), function, (FORTY, DOT), k, 0, (0,) * many, *more)
            check_refused(self, InvalidRow(""), function, (DOT, FORTY), 1, 0, (1,), *more)

    def test_rows_limit(self):
        for k, within, beyond in ((2, 16, 17), (3, 8, 9)):
            for one, other in ((full(beyond), DOT), (DOT, full(beyond))):
                for function, more in self.DEEP:
                    check_refused(self, TooMany(4096), function, one, other, k, 0, *more)
                for function, more in self.FLAT[:3] + ((agree, ((),)),):
                    check_refused(self, TooMany(4096), function, one, other, k, *more)
                for function, more in ((name_line, ()), (is_name_line, (None,))):
                    check_refused(self, TooMany(4096), function, (one, other), k, 0, (), *more)
            self.assertIsNone(parting_sentence(full(within), full(within), k))
            self.assertEqual(parting_answer(full(within), full(within), k, 1)[0], "alike")
            self.assertTrue(is_name_line((full(within),), k, 0, (0,), name_line((full(within),), k, 0, (0,))))
        self.assertIsNone(least_depth(FORTY, FORTY, 1))


if __name__ == "__main__":
    unittest.main()
