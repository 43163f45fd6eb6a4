"""Stage 8: sentences with few names."""
import itertools
import random
import unittest

import told
from fivealike.errors import InvalidNumber, InvalidOperation, InvalidRow, InvalidSentence, InvalidWeb, TooMany
from fivealike.say.sentences import (MOST_LEAST, MOST_LINES, both, depths, either, exchanged, free_names, is_saying,
                                     is_sentence, is_true, not_of, shortened, tables_of, true_of)
from fivealike.web.webs import Web, renamed
from helper import DOT, FORTY, NO_WEB, RING, STRANGE, TWO, check_refused, full, path, some_names, some_web

TRIANGLE = (("tie", 0, 1), ("tie", 0, 2), ("tie", 1, 2), ("all", (0, 1, 2)), ("least", 1, 2, 3), ("least", 1, 1, 4),
            ("least", 1, 0, 5))
NEAR = (("tie", 0, 1), ("least", 3, 1, 0))
TRUE, FALSE = (("all", ()),), (("some", ()),)
WRONG_K = (0, 4, -1, True, False, None, "1", (1,), 10 ** 99, [])


def some_saying(seed, k, many):
    """A saying for k that hangs on the seed alone."""
    source = random.Random(seed)
    lines = []
    while len(lines) < many:
        word = source.choice(("tie", "tie", "same", "colour", "not", "all", "some", "least", "least"))
        i, j = sorted(source.sample(range(k + 1), 2))
        if word in ("tie", "same"):
            lines.append((word, i, j))
        elif word == "colour":
            lines.append((word, i, source.choice((-1, 0, 1, 9))))
        elif lines == []:
            continue
        elif word == "not":
            lines.append((word, source.randrange(len(lines))))
        elif word == "least":
            lines.append((word, source.choice((1, 1, 2, 3)), i, source.randrange(len(lines))))
        else:
            lines.append((word, tuple([source.randrange(len(lines)) for _ in range(source.randrange(4))])))
    return tuple(lines)


def closed(saying, k):
    """The sentence that says that there are points with which the last line is true."""
    for name in sorted(told.free(saying)[-1]):
        saying = saying + (("least", 1, name, len(saying) - 1),)
    return saying


def told_short(saying):
    """The saying without needless lines, by the words of the document."""
    lines, led = [], []
    for line in saying:
        if line[0] == "not":
            line = ("not", led[line[1]])
        elif line[0] == "least":
            line = line[:3] + (led[line[3]],)
        elif line[0] in ("all", "some"):
            line = (line[0], tuple([led[at] for at in line[1]]))
        equal = [at for at in range(len(lines)) if lines[at] == line]
        if equal == []:
            lines.append(line)
        led.append(equal[0] if equal else len(lines) - 1)
    needed = {led[-1]}
    for at in reversed(range(len(lines))):
        if at in needed:
            needed.update(told_within(lines[at]))
    new = {at: new for new, at in enumerate(sorted(needed))}
    return tuple([told_moved(lines[at], new) for at in sorted(needed)])


def told_within(line):
    return line[1] if line[0] in ("all", "some") else {"not": line[1:2], "least": line[3:]}.get(line[0], ())


def told_moved(line, new):
    if line[0] in ("all", "some"):
        return (line[0], tuple([new[at] for at in line[1]]))
    if line[0] in ("not", "least"):
        return line[:-1] + (new[line[-1]],)
    return line


class Judges(unittest.TestCase):
    def test_right_lines(self):
        for k in (1, 2, 3):
            for i in range(k + 1):
                for colour in range(-1, 10):
                    self.assertIs(is_saying(k, (("colour", i, colour),)), True)
                for least in (1, 2, 98, 99):
                    self.assertIs(is_saying(k, TRUE + (("least", least, i, 0),)), True)
                    self.assertIs(is_sentence(k, TRUE + (("least", least, i, 0),)), True)
                for j in range(i + 1, k + 1):
                    for word in ("tie", "same"):
                        self.assertIs(is_saying(k, ((word, i, j),)), True)
                        self.assertIs(is_sentence(k, ((word, i, j),)), False)
        for word in ("all", "some"):
            for many in (0, 1, 2, 39, 40):
                self.assertIs(is_sentence(1, TRUE + ((word, (0,) * many),)), True)
            self.assertIs(is_saying(1, TRUE + ((word, (0,) * 41),)), False)

    def test_wrong_lines(self):
        ahead = (("tie", 0, 1), ("all", ()))
        for line in ((), ("or", (0,)), ("tie",), ("tie", 0), ("tie", 0, 1, 0), ("tie", 1, 0), ("tie", 0, 0), ("tie", 0, 2),
                     ("tie", -1, 0), ("tie", False, True), ("tie", 0, True), ("tie", "0", 1), ("same", 1, 1), ("same", 0, 2),
                     ("same", False, 1), ("colour", 0), ("colour", 0, -2), ("colour", 0, 10), ("colour", 2, 0),
                     ("colour", -1, 0), ("colour", True, 0), ("colour", 0, True), ("colour", 0, 0, 0), ("not",), ("not", 2),
                     ("not", -1), ("not", True), ("not", (0,)), ("not", None), ("not", 0, 1), ("all",), ("all", 0),
                     ("all", (2,)), ("all", (0, -1)), ("all", (True,)), ("all", [0]), ("all", None), ("all", (0,), (1,)),
                     ("all", (None,)), ("some", (2,)), ("some", ((0,),)), ("some", {0: 0}), ("least", 0, 0, 0),
                     ("least", 100, 0, 0), ("least", True, 0, 0), ("least", 1, 2, 0), ("least", 1, -1, 0),
                     ("least", 1, True, 0), ("least", 1, 0, 2), ("least", 1, 0, -1), ("least", 1, 0, False),
                     ("least", 1, 0), ("least", 1, 0, 0, 0), ("least", 1, 0, (0,)), ("least", 10 ** 99, 0, 0),
                     ("not", 10 ** 99), ("all", (10 ** 99,)), ["tie", 0, 1], "tie", None, 7, (("tie", 0, 1),), (0, 1), ({}, 1),
                     ("point", 0), ("sum", 0, 0)):
            self.assertIs(is_saying(1, ahead + (line,)), False, line)
            self.assertIs(is_sentence(1, ahead + (line, ("all", ()))), False, line)
            check_refused(self, InvalidSentence(""), free_names, 1, ahead + (line,))

    def test_any_value(self):
        for value in STRANGE + ((), [("all", ())], (["all", ()],), ("all", ()), "all", {("all", ()): 0}, RING, ((),), (TRUE,)):
            for function in (is_saying, is_sentence):
                self.assertIs(function(1, value), False)

    def test_lengths(self):
        self.assertEqual((MOST_LINES, MOST_LEAST), (2000, 99))
        for many, right in ((1, True), (1999, True), (2000, True), (2001, False)):
            self.assertIs(is_saying(2, TRUE * many), right)
            self.assertIs(is_sentence(2, TRUE * many), right)

    def test_k(self):
        for k in WRONG_K:
            for function in (is_saying, is_sentence, free_names, depths, not_of, shortened):
                check_refused(self, InvalidNumber(k), function, k, None)
            for function in (tables_of, is_true, both, either, exchanged):
                check_refused(self, InvalidNumber(k), function, k, None, None)
            check_refused(self, InvalidNumber(k), true_of, k, None, None, None)

    def test_untrue(self):
        # A sentence for k + 1 that is none for k.
        self.assertTrue(is_sentence(2, TRIANGLE) and is_sentence(3, TRIANGLE))
        self.assertFalse(is_saying(1, TRIANGLE))
        # Lines that say the same in other words are kept.
        self.assertEqual(shortened(1, TRUE + (("not", 0), ("not", 1))), TRUE + (("not", 0), ("not", 1)))


class Lines(unittest.TestCase):
    def test_free_names_and_depths(self):
        for seed in range(60):
            k = seed % 3 + 1
            saying = some_saying(seed, k, 14)
            free = tuple([tuple(sorted(names)) for names in told.free(saying)])
            self.assertEqual(free_names(k, saying), free)
            self.assertEqual(depths(k, saying), tuple(told.line_depths(saying)))
            self.assertIs(is_sentence(k, saying), free[-1] == ())
            self.assertTrue(is_sentence(k, closed(saying, k)))

    def test_deep(self):
        lines = TRUE + tuple([("least", 1, at % 2, at) for at in range(1999)])
        self.assertEqual(depths(1, lines)[-1], 1999)
        self.assertTrue(is_true(1, lines, DOT))
        self.assertFalse(is_true(1, lines, NO_WEB))


class Truth(unittest.TestCase):
    def test_tables(self):
        for seed in range(90):
            k = seed % 3 + 1
            web = some_web(seed, seed % 5, 0.5, (-1, 0, 1))
            saying = some_saying(seed + 700, k, 9)
            wanted = tuple([told.table(saying, at, web) for at in range(len(saying))])
            self.assertEqual(tables_of(k, saying, web), wanted)
            sentence = closed(saying, k)
            self.assertIs(is_true(k, sentence, web), told.holds(sentence, web))
            free = sorted(told.free(saying)[-1])
            for row in itertools.product(range(len(web)), repeat=len(free)):
                self.assertIs(true_of(k, saying, web, row), row in wanted[-1])

    def test_large(self):
        # Webs just within the rows limit, counted in another way.
        web = some_web(4, 40, 0.3)
        for least in (1, 8, 12, 20, 40, 41, 99):
            saying = (("tie", 0, 1), ("least", least, 1, 0))
            self.assertEqual(tables_of(1, saying, web)[1],
                             tuple([(point,) for point in range(40) if web.degrees[point] >= least]))
        self.assertEqual(len(tables_of(3, (("all", ()), ("tie", 0, 3)), full(8))[1]), 56)
        self.assertTrue(is_true(2, TRIANGLE, full(16)))
        self.assertFalse(is_true(2, TRIANGLE, path(16)))

    def test_no_points(self):
        self.assertEqual(tables_of(1, (("tie", 0, 1), ("not", 0), ("all", ()), ("some", ()), ("least", 1, 0, 1)), NO_WEB),
                         ((), (), ((),), (), ()))
        for k in (1, 2, 3):
            for name in range(k + 1):
                self.assertFalse(is_true(k, TRUE + (("least", 1, name, 0),), NO_WEB))
                self.assertTrue(is_true(k, TRUE + (("least", 1, name, 0), ("not", 1)), NO_WEB))
            self.assertEqual(tables_of(k, (("same", 0, 1), ("least", 1, 0, 0), ("least", 1, 1, 1), ("not", 2)), NO_WEB),
                             ((), (), (), ((),)))

    def test_a_name_that_is_not_free(self):
        saying = (("colour", 0, 0), ("least", 2, 1, 0), ("least", 3, 1, 0), ("least", 1, 0, 0), ("least", 3, 0, 3))
        self.assertEqual(tables_of(1, saying, Web((0, 5), ())), (((0,),), ((0,),), (), ((),), ()))
        self.assertEqual(free_names(1, saying), ((0,), (0,), (0,), (), ()))

    def test_same_webs(self):
        for seed in range(20):
            k = seed % 3 + 1
            web = some_web(seed, 4, 0.5, (0, 1))
            names = some_names(seed, 4)
            saying = some_saying(seed + 50, k, 10)
            other = renamed(web, names)
            for one, two in zip(tables_of(k, saying, web), tables_of(k, saying, other)):
                self.assertEqual(tuple(sorted([tuple([names[point] for point in row]) for row in one])), two)
            self.assertIs(is_true(k, closed(saying, k), web), is_true(k, closed(saying, k), other))

    def test_depth_nought(self):
        sentence = (("all", ()), ("not", 0), ("some", (0, 1)), ("all", (2, 0)))
        for web in (NO_WEB, DOT, RING, TWO, full(3)):
            self.assertTrue(is_true(1, sentence, web))
            self.assertFalse(is_true(2, sentence[:2], web))

    def test_wrong_arguments(self):
        for value in STRANGE + (NEAR, ()):
            check_refused(self, InvalidSentence(""), is_true, 1, value, None)
        for value in STRANGE + ((("tie", 0, 2),), ()):
            check_refused(self, InvalidSentence(""), tables_of, 1, value, None)
            check_refused(self, InvalidSentence(""), true_of, 1, value, None, None)
        for web in STRANGE:
            check_refused(self, InvalidWeb(""), is_true, 1, TRUE, web)
            check_refused(self, InvalidWeb(""), tables_of, 1, TRUE, web)
            check_refused(self, InvalidWeb(""), true_of, 1, TRUE, web, None)
        for row in STRANGE[:3] + ((), (0, 0), [0], (6,), (-1,), (True,), ("0",), ((0,),), 0, (10 ** 99,)):
            check_refused(self, InvalidRow(""), true_of, 1, NEAR, RING, row)
            check_refused(self, InvalidRow(""), true_of, 3, NEAR, FORTY, (40,))
        check_refused(self, InvalidRow(""), true_of, 1, TRUE, RING, (0,))

    def test_rows_limit(self):
        for k, within, beyond in ((2, 16, 17), (3, 8, 9)):
            self.assertTrue(is_true(k, TRUE, full(within)))
            self.assertEqual(tables_of(k, TRUE, full(within)), (((),),))
            self.assertTrue(true_of(k, TRUE, full(within), ()))
            check_refused(self, TooMany(4096), is_true, k, TRUE, full(beyond))
            check_refused(self, TooMany(4096), tables_of, k, TRUE, full(beyond))
            check_refused(self, TooMany(4096), true_of, k, TRUE, full(beyond), ())
        self.assertTrue(is_true(1, TRUE, FORTY))


class Made(unittest.TestCase):
    def test_joined(self):
        webs = [some_web(seed, seed % 5, 0.5, (0, 1)) for seed in range(10)]
        for seed in range(20):
            k = seed % 3 + 1
            one, other = closed(some_saying(seed, k, 6), k), closed(some_saying(seed + 30, k, 7), k)
            made = (not_of(k, one), both(k, one, other), either(k, one, other))
            for sentence in made:
                self.assertIs(is_sentence(k, sentence), True)
            for web in webs:
                first, second = told.holds(one, web), told.holds(other, web)
                self.assertEqual([told.holds(sentence, web) for sentence in made],
                                 [not first, first and second, first or second])
            many = len(one)
            self.assertEqual(made[0], one + (("not", many - 1),))
            for sentence, word in ((made[1], "all"), (made[2], "some")):
                self.assertEqual(sentence[:many], one)
                self.assertEqual(sentence[-1], (word, (many - 1, many + len(other) - 1)))
                self.assertEqual([line[0] for line in sentence[many:-1]], [line[0] for line in other])

    def test_moved_indices(self):
        other = NEAR + (("all", (0, 1)), ("least", 1, 0, 2), ("least", 2, 1, 3), ("not", 4))
        self.assertEqual(both(1, TRUE, other),
                         TRUE + (("tie", 0, 1), ("least", 3, 1, 1), ("all", (1, 2)), ("least", 1, 0, 3), ("least", 2, 1, 4),
                                 ("not", 5), ("all", (0, 6))))

    def test_lengths(self):
        self.assertEqual(len(not_of(1, TRUE * 1999)), 2000)
        check_refused(self, TooMany(2000), not_of, 1, TRUE * 2000)
        for function in (both, either):
            self.assertEqual(len(function(1, TRUE * 999, TRUE * 1000)), 2000)
            self.assertEqual(len(function(1, TRUE * 1998, TRUE)), 2000)
            check_refused(self, TooMany(2000), function, 1, TRUE * 1000, TRUE * 1000)
            check_refused(self, TooMany(2000), function, 1, TRUE, TRUE * 2000)

    def test_wrong_arguments(self):
        for value in STRANGE + (NEAR, (), TRUE * 2001):
            check_refused(self, InvalidSentence(""), not_of, 1, value)
            for function in (both, either):
                check_refused(self, InvalidSentence(""), function, 1, value, TRUE)
                check_refused(self, InvalidSentence(""), function, 1, TRUE * 2000, value)

    def test_exchanged(self):
        for seed in range(30):
            k = seed % 3 + 1
            web = some_web(seed, 3, 0.5, (0, 1))
            saying = some_saying(seed, k, 9)
            order = some_names(seed, k + 1)
            made = exchanged(k, saying, order)
            self.assertTrue(is_saying(k, made))
            for at in range(len(saying)):
                names, turned = sorted(told.free(saying)[at]), sorted(told.free(made)[at])
                self.assertEqual(sorted([order[name] for name in names]), turned)
                rows = {tuple([dict(zip([order[name] for name in names], row))[name] for name in turned])
                        for row in told.table(saying, at, web)}
                self.assertEqual(rows, set(told.table(made, at, web)))
            back = tuple([order.index(name) for name in range(k + 1)])
            self.assertEqual(exchanged(k, made, back), saying)
        for order in STRANGE + ((0,), (0, 0), (0, 2), (0, 1, 2), [0, 1], (False, True), (1, "0"), (0, 10 ** 99)):
            check_refused(self, InvalidOperation(""), exchanged, 1, NEAR, order)
        check_refused(self, InvalidSentence(""), exchanged, 1, (), None)

    def test_shortened(self):
        for seed in range(60):
            k = seed % 3 + 1
            saying = some_saying(seed, k, 25)
            made = shortened(k, saying)
            self.assertEqual(made, told_short(saying))
            self.assertEqual(shortened(k, made), made)
            web = some_web(seed, 3, 0.5)
            self.assertEqual(told.table(made, len(made) - 1, web), told.table(saying, len(saying) - 1, web))

    def test_shortened_edges(self):
        # Lines that become equal only when their indices are led to elder ones.
        twice = (("tie", 0, 1), ("not", 0), ("tie", 0, 1), ("not", 2), ("all", (1, 3)))
        self.assertEqual(shortened(1, twice), (("tie", 0, 1), ("not", 0), ("all", (1, 1))))
        # The last line goes: the elder one is the last now, and what stood between goes, too.
        self.assertEqual(shortened(1, twice[:4]), twice[:2])
        self.assertEqual(shortened(1, (("all", ()), ("some", ()), ("tie", 0, 1), ("all", ()))), TRUE)
        self.assertEqual(shortened(1, (("some", ()), ("all", ()))), TRUE)
        # An unlike sequence of the same lines stays.
        self.assertEqual(len(shortened(1, TRUE + FALSE + (("all", (0, 1)), ("all", (1, 0)), ("all", (2, 3))))), 5)
        self.assertEqual(shortened(2, TRUE * 2000), TRUE)
        self.assertEqual(shortened(2, TRIANGLE + TRIANGLE), TRIANGLE)
        for value in STRANGE + ((),):
            check_refused(self, InvalidSentence(""), shortened, 1, value)


if __name__ == "__main__":
    unittest.main()
