"""Stage 7: the counting game."""
import itertools
import unittest

import told
from fivealike.colour.alike import alike_answer, for_ever, is_ladder, is_table, least_apart
from fivealike.errors import InvalidNumber, InvalidOperation, InvalidTable, InvalidWeb, Refused, TooMany
from fivealike.game.tokens import (Play, game_answer, is_game_answer, is_pairing, is_pairing_for, is_position,
                                   is_spoiler_table, is_spoiler_take, least_moves, pairing_for, spoiler_take)
from fivealike.web.webs import Web, beside
from helper import DOT, FORTY, NO_WEB, RING, STRANGE, TWO, check_refused, full, path, some_names, some_web

PAIR, LOOSE = Web((0, 0), ((0, 1),)), Web((0, 0), ())
START = ((), ())
WRONG_K = (0, 4, -1, True, False, None, "1", (1,), 10 ** 99, [])
APART = game_answer(RING, TWO, 2, None)[1]


def positions(one, other, k):
    return [(row, goal) for row in told.rows(one, k) for goal in told.rows(other, k)
            if len(row) == len(goal) and told.atom(one, row) == told.atom(other, goal)]


def told_wins(one, other, k, most):
    """For each number of moves up to this one the positions from which the spoiler wins, by all pairings."""
    won = [set()]
    everything = positions(one, other, k)
    pairings = list(itertools.permutations(range(len(other)))) if len(one) == len(other) else []
    for _ in range(most):
        won.append({position for position in everything
                    if all(any(is_lost(one, other, k, won[-1], position, point, pairing[point])
                               for point in range(len(one))) for pairing in pairings)})
    return won


def is_lost(one, other, k, won, position, point, partner):
    row, goal = position[0] + (point,), position[1] + (partner,)
    if told.atom(one, row) != told.atom(other, goal):
        return True
    if len(row) <= k:
        return (row, goal) in won
    return any(cut in won for cut in zip(told.cuts(row), told.cuts(goal)))


def told_table(one, other, k, table):
    """Whether a dict of the right form leads on, by the words of the document."""
    for (row, goal), (moves, left, right) in table.items():
        for v, w in itertools.product(range(len(one)), range(len(other))):
            wanted = v in left and w not in right if len(left) > len(right) else v not in left and w in right
            lesser = {position for position in table if table[position][0] < moves}
            if wanted and not is_lost(one, other, k, lesser, (row, goal), v, w):
                return False
    return True


def some_pairs():
    """Pairs of small webs and a k."""
    for seed in range(21):
        many = seed % 4 + 1
        yield some_web(seed, many, 0.5), some_web(seed + 80, many, 0.5, (0, 1) if seed % 7 == 0 else (0,)), seed % 3 + 1
    yield from [(path(4), beside(path(2), path(2)), 1), (path(5, 0), path(5, 1), 1), (path(5, 1), path(5, 2), 2),
                (NO_WEB, NO_WEB, 1), (NO_WEB, DOT, 2), (PAIR, LOOSE, 3), (DOT, PAIR, 1), (path(4), path(4), 2)]


class Positions(unittest.TestCase):
    def test_positions(self):
        for one, other, k in some_pairs():
            right = positions(one, other, k)
            for value in itertools.product(told.rows(one, min(k + 1, 2)), told.rows(other, min(k + 1, 2))):
                self.assertIs(is_position(one, other, k, value), value in right)
        self.assertTrue(is_position(RING, TWO, 3, ((0, 1, 0), (3, 4, 3))))
        self.assertFalse(is_position(RING, TWO, 2, ((0, 1, 0), (3, 4, 3))))

    def test_any_value(self):
        for value in STRANGE + (((0,), (True,)), ((False,), (0,)), [(), ()], ((0,), ()), ((0,), [0]), ((0,), (6,)), ((0,),),
                                ((0,), (0,), (0,)), ((-1,), (0,)), ((None,), (None,)), (RING, TWO), (0, 0)):
            self.assertIs(is_position(RING, TWO, 1, value), False)
        self.assertIs(is_position(RING, TWO, 1, START), True)

    def test_pairings(self):
        one, other = full(3), path(3)
        for value in itertools.product(range(4), repeat=3):
            self.assertIs(is_pairing(one, other, value), sorted(value) == [0, 1, 2])
        for value in STRANGE + ((0, 1), (0, 1, 2, 3), [0, 1, 2], (False, True, 2), (0, 1, -1), (0, 1, None), RING):
            self.assertIs(is_pairing(one, other, value), False)
        self.assertTrue(is_pairing(NO_WEB, NO_WEB, ()))
        for value in ((), (0,), (0, 1), (0, 0)):
            self.assertFalse(is_pairing(PAIR, DOT, value) or is_pairing(DOT, PAIR, value))
        self.assertTrue(is_pairing(FORTY, full(40), some_names(1, 40)))
        check_refused(self, InvalidWeb(""), is_pairing, None, RING, ())
        check_refused(self, InvalidWeb(""), is_pairing, RING, None, ())


class Answers(unittest.TestCase):
    def test_least_moves(self):
        for one, other, k in some_pairs():
            if len(one) <= 4:
                won = told_wins(one, other, k, 5)
                wanted = [moves for moves in range(6) if START in won[moves]]
                if len(one) != len(other):
                    wanted = [1]
                self.assertEqual(least_moves(one, other, k), wanted[0] if wanted else None)
            self.assertEqual(least_moves(one, other, k), least_apart(one, other, k))

    def check_answer(self, one, other, k):
        least = least_moves(one, other, k)
        for depth in (0, 1, 2, 3, 4, 99, None):
            kind, paper = answer = game_answer(one, other, k, depth)
            self.assertIs(is_game_answer(one, other, k, depth, answer), True)
            self.assertFalse(is_game_answer(one, other, k, depth, ("keeper" if kind == "spoiler" else "spoiler", paper)))
            if least is None or depth is not None and depth < least:
                self.assertEqual(kind, "keeper")
                self.assertTrue(is_table(one, other, k, paper) if depth is None else is_ladder(one, other, k, depth, paper))
                continue
            self.assertEqual((kind, paper[START][0]), ("spoiler", least))
            self.assertIs(is_spoiler_table(one, other, k, paper), True)
            self.assertEqual(list(paper), sorted(paper))
            for shorter in range(0, least):
                self.assertIs(is_game_answer(one, other, k, shorter, answer), False)
            self.assertIs(is_game_answer(one, other, k, least, answer), True)
        return least

    def test_answers(self):
        for one, other, k in some_pairs():
            if self.check_answer(one, other, k) is not None:
                table = game_answer(one, other, k, None)[1]
                self.assertTrue(told_table(one, other, k, table))

    def test_more(self):
        for seed in range(6):
            self.check_answer(some_web(seed, 7, 0.4), some_web(seed + 40, 7, 0.4), seed % 2 + 1)
        for one, other, k, least in ((RING, TWO, 1, None), (RING, TWO, 2, 3), (RING, TWO, 3, 3),
                                     (path(8, 2), path(8, 3), 1, 3), (path(8, 2), path(8, 3), 2, 3),
                                     (path(12, 5), path(12, 4), 1, 4), (path(14, 6), path(14, 5), 2, None)):
            told_least = self.check_answer(one, other, k)
            if least is not None or (one, other) == (RING, TWO):
                self.assertEqual(told_least, least)
            else:
                self.assertGreater(told_least, 2)

    def test_late(self):
        for one, other in (((40, 19), (40, 17)), ((30, 10), (30, 12))):
            first, second = path(*one), path(*other)
            least = least_moves(first, second, 1)
            answer = game_answer(first, second, 1, least)
            self.assertTrue(is_game_answer(first, second, 1, least, answer))
            self.assertEqual(answer[0], "spoiler")
            self.assertEqual(game_answer(first, second, 1, least - 1)[0], "keeper")

    def test_unlike_many(self):
        for k in (1, 2, 3):
            for one, other in ((NO_WEB, DOT), (DOT, NO_WEB), (PAIR, DOT), (full(8), full(7))):
                self.assertEqual(least_moves(one, other, k), 1)
                self.check_answer(one, other, k)


class SpoilerTables(unittest.TestCase):
    def test_small(self):
        rows = [(), (0,), (1,)]
        lots = [(), (0,), (1,), (0, 1)]
        entries = [(moves, left, right) for moves in (1, 2) for left in lots for right in lots]
        for one, other in ((PAIR, LOOSE), (PAIR, PAIR)):
            for entry in entries:
                for more in entries:
                    for table in ({START: entry}, {START: entry, ((0,), (0,)): more},
                                  {START: entry, **{(row, goal): more for row in rows[1:] for goal in rows[1:]}}):
                        unlike = all(len(left) != len(right) for _, left, right in table.values())
                        right = unlike and told_table(one, other, 1, table)
                        self.assertIs(is_spoiler_table(one, other, 1, table), right)

    def test_others_are_taken(self):
        larger = {position: (moves * 10 ** 50, left, right) for position, (moves, left, right) in APART.items()}
        self.assertTrue(is_spoiler_table(RING, TWO, 2, larger))
        self.assertTrue(is_game_answer(RING, TWO, 2, None, ("spoiler", larger)))
        self.assertFalse(is_game_answer(RING, TWO, 2, 99, ("spoiler", larger)))
        turned = dict(reversed(list(APART.items())))
        self.assertTrue(is_spoiler_table(RING, TWO, 2, turned))
        # The other side of both webs is as good.
        over = {(goal, row): (moves, right, left) for (row, goal), (moves, left, right) in APART.items()}
        self.assertTrue(is_spoiler_table(TWO, RING, 2, over))
        self.assertFalse(is_spoiler_table(TWO, RING, 2, APART))

    def test_spoilt_tables(self):
        for position in list(APART)[::17]:
            moves, left, right = APART[position]
            lacking = {key: entry for key, entry in APART.items() if key != position}
            self.assertIs(is_spoiler_table(RING, TWO, 2, lacking), told_table(RING, TWO, 2, lacking) and START in lacking)
            for entry in ((moves - 1, left, right), (moves, left, left), (moves, right, left), (moves, [], right),
                          (moves, left, right + (True,)), (moves, left), (moves, left, right, ()), [moves, left, right],
                          (True, left, right), (0, left, right), (-1, left, right), (None, left, right), None, (),
                          (moves, left, (5, 4)), (moves, left, (6,)), (moves, None, right), (moves, left, (0, 0))):
                value = {**APART, position: entry}
                form = (isinstance(entry, tuple) and len(entry) == 3 and entry[0] == moves - 1 and entry[0] is not True
                        and moves > 1 and told_table(RING, TWO, 2, value))
                if entry != (moves, right, left):
                    self.assertIs(is_spoiler_table(RING, TWO, 2, value), form, entry)

    def test_any_value(self):
        one, other = Web((0, 1), ()), LOOSE
        right = {START: (1, (), (1,))}
        self.assertIs(is_spoiler_table(one, other, 1, {START: (1, (1,), ())}), True)
        self.assertIs(is_spoiler_table(one, other, 1, {START: (1, (0,), (0, 1))}), True)
        for value in STRANGE + (right, {}, {START: None}, {((0,), (0,)): (1, (1,), ())}, [START], {START: (1, (1,), ()), 7: 7},
                                {START: (1, (1,), ()), ((False,), (0,)): (1, (1,), ())}, {START: (1, (1,), (0,))},
                                {START: (1, (1,), ()), ((1,), (0,)): (1, (1,), ())}, {START: (True, (1,), ())},
                                {START: (1, (True,), ())}, {START: (1, (1,), ()), None: (1, (1,), ())}):
            self.assertIs(is_spoiler_table(one, other, 1, value), False)
            self.assertIs(is_game_answer(one, other, 1, None, ("spoiler", value)), False)
            self.assertIs(is_game_answer(one, other, 1, 1, ("keeper", value)), False)
            self.assertIs(is_game_answer(one, other, 1, 1, value), False)
            self.assertIs(is_game_answer(one, other, 1, None, value), False)
        self.assertTrue(is_game_answer(one, other, 1, 1, ("spoiler", {START: (1, (1,), ())})))
        self.assertFalse(is_game_answer(one, other, 1, 1, ["spoiler", {START: (1, (1,), ())}]))

    def test_takes(self):
        for position in list(APART)[::23] + [START]:
            for seed in range(4):
                pairing = some_names(seed, 6)
                take = spoiler_take(RING, TWO, 2, APART, position, pairing)
                lesser = {key for key in APART if APART[key][0] < APART[position][0]}
                right = []
                for point, place in itertools.product(range(6), range(3)):
                    row, goal = position[0] + (point,), position[1] + (pairing[point],)
                    if told.atom(RING, row) != told.atom(TWO, goal):
                        right += [(point, 0)] if place == 0 else []
                    elif len(row) <= 2:
                        right += [(point, 0)] if place == 0 and (row, goal) in lesser else []
                    elif (told.cuts(row)[place], told.cuts(goal)[place]) in lesser:
                        right.append((point, place))
                self.assertIn(take, right)
                for value in itertools.product(range(-1, 7), range(-1, 4)):
                    judged = is_spoiler_take(RING, TWO, 2, APART, position, pairing, value)
                    self.assertIs(judged, value in right)
                wrong = [(bool(point), place) for point, place in right] + [(point, bool(place)) for point, place in right]
                for value in list(STRANGE) + wrong + [list(take), take + (0,), (take[0], None), take[:1], (None, take[1])]:
                    self.assertIs(is_spoiler_take(RING, TWO, 2, APART, position, pairing, value), False)

    def test_take_errors(self):
        names = (0, 1, 2, 3, 4, 5)
        for function, more in ((spoiler_take, ()), (is_spoiler_take, (None,))):
            for web in (None, RING.ties):
                check_refused(self, InvalidWeb(""), function, web, None, None, None, None, None, *more)
                check_refused(self, InvalidWeb(""), function, FORTY, web, None, None, None, None, *more)
            for k in WRONG_K:
                check_refused(self, InvalidNumber(k), function, FORTY, FORTY, k, None, None, None, *more)
            for table in (None, {}, {START: (3, (), (0,))}, list(APART), {**APART, 5: 5}):
                check_refused(self, InvalidTable(""), function, RING, TWO, 2, table, None, None, *more)
                check_refused(self, InvalidTable(""), function, FORTY, FORTY, 3, table, None, None, *more)
            for position in (None, (), ((0,), (True,)), ((0, 1), (0, 3)), [(), ()], ((0, 0, 0), (0, 0, 0))):
                check_refused(self, InvalidOperation(""), function, RING, TWO, 2, APART, position, None, *more)
                check_refused(self, InvalidOperation(""), function, RING, TWO, 2, APART, position, names, *more)
            for pairing in (None, (), (0,) * 6, list(names), names[:5], (False,) + names[1:]):
                check_refused(self, InvalidOperation(""), function, RING, TWO, 2, APART, START, pairing, *more)
            check_refused(self, Refused(("lacks",)), function, RING, TWO, 2, APART, ((0, 0), (0, 0)), names, *more)
            # The rows limit comes behind these, but ahead of what the table lacks.
            one, other = Web((0,) * 9, ()), Web((1,) * 9, ())
            table = {START: (1, (0,), ())}
            self.assertEqual(spoiler_take(Web((0,) * 8, ()), Web((1,) * 8, ()), 3, table, START, some_names(1, 8))[1], 0)
            check_refused(self, InvalidTable(""), function, one, other, 3, {}, None, None, *more)
            check_refused(self, InvalidOperation(""), function, one, other, 3, table, None, None, *more)
            check_refused(self, InvalidOperation(""), function, one, other, 3, table, START, None, *more)
            check_refused(self, TooMany(4096), function, one, other, 3, table, START, tuple(range(9)), *more)
            mixed, more_table = Web((0,) * 8 + (1,), ()), {START: (1, (0, 1), (0,))}
            check_refused(self, InvalidTable(""), function, mixed, mixed, 3, more_table, START, tuple(range(9)), *more)
            mixed, goal = Web((0,) * 7 + (1,) * 2, ()), Web((0,) * 8 + (1,), ())
            lots = {START: (1, (7, 8), (8,))}
            check_refused(self, TooMany(4096), function, mixed, goal, 3, lots, ((0,), (0,)), tuple(range(9)), *more)
            check_refused(self, Refused(("lacks",)), function, mixed, goal, 2, lots, ((0,), (0,)), tuple(range(9)), *more)

    def test_no_pairing_of_unlike_many(self):
        table = game_answer(DOT, PAIR, 1, None)[1]
        for pairing in ((), (0,), (0, 1)):
            check_refused(self, InvalidOperation(""), spoiler_take, DOT, PAIR, 1, table, START, pairing)


class Keepers(unittest.TestCase):
    def right_pairing(self, one, other, k, lower, position, pairing):
        for point in range(len(one)):
            row, goal = position[0] + (point,), position[1] + (pairing[point],)
            if told.atom(one, row) != told.atom(other, goal):
                return False
            ends = [(row, goal)] if len(row) <= k else list(zip(told.cuts(row), told.cuts(goal)))
            if any(lower[0][first] != lower[1][second] for first, second in ends):
                return False
        return True

    def test_pairings(self):
        checked = 0
        for one, other, k in some_pairs():
            for depth in (1, 2, None):
                kind, ladder = for_ever(one, other, k) if depth is None else alike_answer(one, other, k, 2)
                if kind == "apart" or len(one) > 4:
                    continue
                upper = ladder if depth is None else ladder[depth]
                lower = ladder if depth is None else ladder[depth - 1]
                for position in positions(one, other, k)[::1 if k < 3 else 7]:
                    values = (one, other, k, ladder, depth, position)
                    if upper[0][position[0]] != upper[1][position[1]]:
                        check_refused(self, Refused(("names",)), pairing_for, *values)
                        check_refused(self, Refused(("names",)), is_pairing_for, *values, ())
                        continue
                    made = pairing_for(*values)
                    self.assertTrue(self.right_pairing(one, other, k, lower, position, made))
                    for pairing in itertools.permutations(range(len(other))):
                        right = self.right_pairing(one, other, k, lower, position, pairing)
                        self.assertIs(is_pairing_for(*values, pairing), right)
                    for value in STRANGE + (list(made), made + (0,), tuple([bool(partner) for partner in made])):
                        if value != ():
                            self.assertIs(is_pairing_for(*values, value), False)
                    checked += 1
        self.assertGreater(checked, 100)

    def test_depths_of_a_ladder(self):
        ladder = alike_answer(RING, TWO, 2, 2)[1]
        for depth in (0, 3, -1, 99, 100, True, False, "1", (1,), 10 ** 99, []):
            check_refused(self, InvalidNumber(depth), pairing_for, RING, TWO, 2, ladder, depth, None)
            check_refused(self, InvalidNumber(depth), is_pairing_for, RING, TWO, 2, ladder, depth, None, None)
        check_refused(self, InvalidNumber(1), pairing_for, RING, TWO, 2, ladder[:1], 1, START)
        self.assertTrue(is_pairing(RING, TWO, pairing_for(RING, TWO, 2, ladder, 2, START)))
        long = alike_answer(RING, TWO, 1, 99)[1]
        self.assertTrue(is_pairing(RING, TWO, pairing_for(RING, TWO, 1, long, 99, ((2,), (3,)))))
        check_refused(self, InvalidTable(""), pairing_for, RING, TWO, 1, long + long[-1:], 1, START)

    def test_other_numbers(self):
        table = for_ever(RING, TWO, 1)[1]
        other = tuple([{row: 10 ** 90 - number * 10 ** 20 for row, number in own.items()} for own in table])
        self.assertTrue(is_pairing(RING, TWO, pairing_for(RING, TWO, 1, other, None, START)))
        self.assertTrue(is_pairing_for(RING, TWO, 1, (other,) * 3, 2, START, (5, 4, 3, 2, 1, 0)))

    def test_errors(self):
        ladder, table = alike_answer(RING, TWO, 2, 2)[1], for_ever(RING, TWO, 1)[1]
        for function, more in ((pairing_for, ()), (is_pairing_for, (None,))):
            check_refused(self, InvalidWeb(""), function, None, None, None, None, None, None, *more)
            check_refused(self, InvalidWeb(""), function, FORTY, (), None, None, None, None, *more)
            for k in WRONG_K:
                check_refused(self, InvalidNumber(k), function, FORTY, FORTY, k, None, 0, None, *more)
            for wrong in (None, (), [], list(ladder), ladder[1], ladder[1:] + ladder[:1], (ladder,), {START: 1}, table):
                for depth in (1, 0, 7, None, "x"):
                    check_refused(self, InvalidTable(""), function, RING, TWO, 2, wrong, depth, None, *more)
                    check_refused(self, InvalidTable(""), function, FORTY, FORTY, 3, wrong, depth, None, *more)
            # A table is none for a depth, and a ladder none for ever.
            check_refused(self, InvalidTable(""), function, RING, TWO, 2, ladder, None, START, *more)
            check_refused(self, InvalidTable(""), function, RING, TWO, 1, table, 1, START, *more)
            for position in (None, (), [(), ()], ((0,), (True,)), ((0, 1), (0, 3)), ((0, 0, 0), (0, 0, 0))):
                check_refused(self, InvalidOperation(""), function, RING, TWO, 2, ladder, 1, position, *more)
            # The rows limit comes behind all of these, ahead of unlike names.
            for k, many in ((2, 17), (3, 9)):
                beyond = Web((0,) * many, ())
                flat = told_flat(beyond, k)
                check_refused(self, InvalidTable(""), function, beyond, beyond, k, flat, 1, None, *more)
                check_refused(self, InvalidNumber(2), function, beyond, beyond, k, (flat, flat), 2, None, *more)
                check_refused(self, InvalidOperation(""), function, beyond, beyond, k, flat, None, None, *more)
                check_refused(self, TooMany(4096), function, beyond, beyond, k, flat, None, START, *more)
                split = told_flat(beyond, k, 1)
                self.assertNotEqual(split[0][(0,)], split[1][(1,)])
                check_refused(self, TooMany(4096), function, beyond, beyond, k, split, None, ((0,), (1,)), *more)


def told_flat(web, k, first=0):
    """A table of a web without ties and itself: rows by their atoms, points apart up to some of them."""
    marks = {}
    pair = []
    for _ in range(2):
        own = {}
        for row in told.rows(web, k):
            mark = (told.atom(web, row), tuple([min(point, first) for point in row]))
            own[row] = marks.setdefault(mark, len(marks))
        pair.append(own)
    return tuple(pair)


class Plays(unittest.TestCase):
    def test_new(self):
        play = Play(RING, TWO, 2)
        self.assertTrue(play.one == RING and play.other == TWO)
        self.assertEqual((play.k, play.position, play.moves, play.pairing), (2, START, 0, None))
        self.assertIs(play.has_ended, False)
        self.assertEqual((len(play), str(play)), (0, "play with 3 tokens, 0 moves"))
        self.assertEqual(str(Play(NO_WEB, NO_WEB, 3)), "play with 4 tokens, 0 moves")
        with self.assertRaises(TypeError):
            iter(play)

    def test_refused(self):
        check_refused(self, InvalidWeb(""), Play, None, None, None)
        check_refused(self, InvalidWeb(""), Play, RING, None, None)
        for k in WRONG_K:
            check_refused(self, InvalidNumber(k), Play, FORTY, DOT, k)
        check_refused(self, TooMany(4096), Play, FORTY, DOT, 2)
        check_refused(self, TooMany(4096), Play, DOT, full(9), 3)
        check_refused(self, Refused(("points",)), Play, DOT, PAIR, 1)
        check_refused(self, Refused(("points",)), Play, FORTY, DOT, 1)

    def states(self, play):
        return (play.one, play.other, play.k, play.position, play.moves, play.pairing, play.has_ended, len(play), str(play))

    def check_still(self, play, error, function, *values, **more):
        """Fails unless the call is refused so and changes nothing."""
        ahead, twin = self.states(play), play.twin()
        check_refused(self, error, function, *values, **more)
        self.assertEqual(self.states(play)[3:], ahead[3:])
        self.assertTrue(play == twin)

    def test_moves(self):
        play = Play(RING, TWO, 1)
        names = (0, 1, 2, 3, 4, 5)
        self.assertIsNone(play.offer(names))
        self.assertEqual((play.pairing, play.moves, play.position), (names, 0, START))
        self.assertEqual(play.take(2), ((2,), (2,)))
        self.assertEqual((play.pairing, play.moves, play.position, play.has_ended), (None, 1, ((2,), (2,)), False))
        play.offer((3, 4, 5, 0, 1, 2))
        play.undo()
        # (2, 4) and (2, 5) are both untied; without the place 0 the new points stay, without 1 the old ones.
        play.offer((3, 4, 2, 0, 5, 1))
        self.assertEqual(play.take(4, 1), ((2,), (2,)))
        play.offer((3, 4, 2, 0, 5, 1))
        self.assertEqual(play.take(4, place=0), ((4,), (5,)))
        self.assertEqual((play.moves, len(play), str(play)), (3, 3, "play with 2 tokens, 3 moves"))

    def test_places_of_three(self):
        play = Play(FORTY, FORTY, 1)
        play.offer(tuple(range(40)))
        play.take(39, 1)
        self.assertEqual(play.position, ((39,), (39,)))
        web = Web((0,) * 4, ())
        for place in range(4):
            play = Play(web, web, 3)
            for point in (0, 1, 2):
                play.offer((3, 2, 1, 0))
                play.take(point, place)
            self.assertEqual(play.position, ((0, 1, 2), (3, 2, 1)))
            play.offer((3, 2, 1, 0))
            self.assertEqual(play.take(3, place), tuple([told.cuts(row)[place] for row in ((0, 1, 2, 3), (3, 2, 1, 0))]))

    def test_loss(self):
        play = Play(RING, TWO, 1)
        play.offer((0, 1, 2, 3, 4, 5))
        play.take(0)
        play.offer((0, 1, 2, 3, 4, 5))
        self.assertEqual(play.take(2), ((0,), (0,)))
        self.assertEqual((play.has_ended, play.moves, play.pairing, len(play)), (True, 2, None, 2))
        self.assertEqual(str(play), "play with 2 tokens, 2 moves, ended")
        self.check_still(play, Refused(("ended",)), play.offer, (0, 1, 2, 3, 4, 5))
        self.check_still(play, Refused(("ended",)), play.take, 0)
        self.check_still(play, InvalidOperation(""), play.offer, None)
        self.check_still(play, InvalidNumber(9), play.take, 9)
        play.undo()
        self.assertEqual((play.has_ended, play.moves, play.pairing), (False, 1, (0, 1, 2, 3, 4, 5)))
        self.assertEqual(play.take(1), ((1,), (1,)))
        # Unlike colours are lost, too, at the first move.
        play = Play(DOT, Web((1,), ()), 3)
        play.offer((0,))
        self.assertEqual((play.take(0, 3), play.has_ended, str(play)), (START, True, "play with 4 tokens, 1 moves, ended"))

    def test_errors(self):
        play = Play(RING, TWO, 2)
        for pairing in STRANGE + ((0, 1, 2, 3, 4), (0, 1, 2, 3, 4, 4), [0, 1, 2, 3, 4, 5], (False, True, 2, 3, 4, 5)):
            self.check_still(play, InvalidOperation(""), play.offer, pairing)
        for wrong in (-1, 6, True, False, None, "0", (0,), 10 ** 99, []):
            self.check_still(play, InvalidNumber(wrong), play.take, wrong, 9)
            if wrong != 6:
                self.check_still(play, InvalidNumber(wrong), play.take, 0, place=wrong)
        self.check_still(play, InvalidNumber(3), play.take, 0, 3)
        self.check_still(play, Refused(("wanted",)), play.take, 0)
        self.check_still(play, Refused(("undo",)), play.undo)
        play.offer((0, 1, 2, 3, 4, 5))
        self.check_still(play, Refused(("offered",)), play.offer, (0, 1, 2, 3, 4, 5))
        self.check_still(play, InvalidOperation(""), play.offer, ())
        self.check_still(play, InvalidNumber(3), play.take, 0, 3)

    def test_undo(self):
        play = Play(RING, RING, 2)
        states = []
        for point in (3, 1, 5, 0):
            states.append(self.states(play)[3:])
            play.offer((0, 1, 2, 3, 4, 5))
            states.append(self.states(play)[3:])
            play.take(point, point % 3)
        self.assertEqual(play.position, ((1, 0), (1, 0)))
        for state in reversed(states):
            self.assertIsNone(play.undo())
            self.assertEqual(self.states(play)[3:], state)
        self.check_still(play, Refused(("undo",)), play.undo)
        self.assertTrue(play == Play(RING, RING, 2))

    def test_twin(self):
        play = Play(RING, TWO, 1)
        play.offer((0, 1, 2, 3, 4, 5))
        play.take(0)
        play.offer((0, 1, 2, 3, 4, 5))
        twin = play.twin()
        self.assertTrue(twin == play and isinstance(twin, Play))
        twin.take(2)
        self.assertEqual((twin.has_ended, play.has_ended, play.moves, twin.moves), (True, False, 1, 2))
        self.assertTrue(twin != play)
        for _ in range(3):
            twin.undo()
        self.check_still(twin, InvalidNumber(7), twin.take, 7)
        self.assertEqual((twin.position, play.position), (START, ((0,), (0,))))
        play.undo()
        names = (0, 1, 2, 3, 4, 5)
        self.assertEqual((play.pairing, play.moves, twin.pairing, twin.moves), (None, 1, names, 0))

    def test_equal(self):
        play, other = Play(RING, TWO, 1), Play(RING, TWO, 1)
        self.assertTrue(play == other and not play != other)
        for different in (Play(TWO, TWO, 1), Play(RING, RING, 1), Play(RING, TWO, 2), Play(RING, TWO, 3)):
            self.assertTrue(play != different and not play == different)
        for value in STRANGE + (RING,):
            self.assertTrue(play != value and not play == value)
        play.offer((0, 1, 2, 3, 4, 5))
        self.assertFalse(play == other)
        other.offer((1, 0, 2, 3, 4, 5))
        self.assertFalse(play == other)
        # Equal properties on another way: what was done ahead does not matter.
        other.undo()
        other.offer((1, 0, 2, 3, 4, 5))
        other.undo()
        other.offer((0, 1, 2, 3, 4, 5))
        self.assertTrue(play == other)
        play.take(0)
        other.take(1)
        self.assertFalse(play == other)
        other.undo()
        self.assertFalse(play == other)
        other.take(0)
        self.assertTrue(play == other)

    def test_each_property_counts(self):
        plays = [Play(RING, TWO, 1) for _ in range(3)]
        for play, takes in zip(plays, (((0, 0),), ((0, 0), (0, 1)), ((0, 0), (2, 0)))):
            for point, place in takes:
                play.offer((0, 1, 2, 3, 4, 5))
                play.take(point, place)
        told = [(play.position, play.pairing, play.moves, play.has_ended) for play in plays]
        self.assertEqual(told, [(((0,), (0,)), None, moves, ended) for moves, ended in ((1, False), (2, False), (2, True))])
        for one, other in itertools.combinations(plays, 2):
            self.assertTrue(one != other and not one == other)

    def test_whole_games(self):
        """The spoiler wins by its table against all pairings tried; the keeper holds by its ladder."""
        for seed in range(20):
            play = Play(RING, TWO, 2)
            while not play.has_ended:
                pairing = some_names(seed + 100 * play.moves, 6)
                play.offer(pairing)
                play.take(*spoiler_take(RING, TWO, 2, APART, play.position, pairing))
            self.assertLessEqual(play.moves, 3)
        ladder = alike_answer(RING, TWO, 2, 2)[1]
        for points in itertools.product(range(0, 6, 2), range(6), range(3)):
            play = Play(RING, TWO, 2)
            for at in (0, 1):
                play.offer(pairing_for(RING, TWO, 2, ladder, 2 - at, play.position))
                play.take(points[at], points[2])
            self.assertFalse(play.has_ended)


class Refusals(unittest.TestCase):
    def test_wrong_arguments(self):
        for function, more in ((is_position, (None,)), (game_answer, (7,)), (is_game_answer, (-1, None)), (least_moves, ()),
                               (is_spoiler_table, (None,))):
            check_refused(self, InvalidWeb(""), function, None, None, None, *more)
            check_refused(self, InvalidWeb(""), function, None, FORTY, None, *more)
            check_refused(self, InvalidWeb(""), function, FORTY, "web", None, *more)
            for k in WRONG_K:
                check_refused(self, InvalidNumber(k), function, FORTY, FORTY, k, *more)
            more = (0, None) if function is is_game_answer else more
            for k, beyond in ((2, 17), (3, 9)):
                check_refused(self, TooMany(4096), function, full(beyond), DOT, k, *more)
                check_refused(self, TooMany(4096), function, DOT, full(beyond), k, *more)
        for depth in (-1, 100, True, False, "0", (0,), 10 ** 99, {}):
            check_refused(self, InvalidNumber(depth), game_answer, FORTY, FORTY, 3, depth)
            check_refused(self, InvalidNumber(depth), is_game_answer, FORTY, FORTY, 3, depth, None)
        check_refused(self, TooMany(4096), game_answer, FORTY, FORTY, 3, None)

    def test_within_the_limit(self):
        for k, many in ((1, 40), (2, 16), (3, 8)):
            web = Web((0,) * many, ())
            self.assertEqual(game_answer(web, web, k, 1)[0], "keeper")
            self.assertTrue(is_position(web, web, k, ((many - 1,) * k, (0,) * k)))
            self.assertIsNone(least_moves(web, web, k))


if __name__ == "__main__":
    unittest.main()
