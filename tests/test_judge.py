"""Stage 21: the checker."""
import copy
import itertools
import unittest

from fivealike.colour.alike import are_alike, for_ever, is_ladder, is_table, least_apart
from fivealike.colour.rounds import stable_names
from fivealike.depth.forests import recipe_of_forest, unlike_forest
from fivealike.errors import InvalidClaim, TooMany, UnknownName
from fivealike.game.tokens import is_spoiler_table
from fivealike.judge.answers import answered
from fivealike.judge.judge import is_claim, opposite, takes
from fivealike.pattern.closure import is_unlike_recipe, unlike_recipe
from fivealike.program.bars import are_bars, program_answer
from fivealike.program.point import is_point, map_point, mixed_point, point_of
from fivealike.same.search import is_same_answer, same_answer
from fivealike.say.parting import is_parting_answer, parting_sentence
from fivealike.say.sentences import both, not_of
from fivealike.side.keepers import greatest_family, is_family, is_side_answer, side_answer
from fivealike.twist.twisted import twisted
from fivealike.web.maps import is_same, maps_of
from fivealike.web.webs import Web, beside, renamed
from fivealike.width.bags import bags_along, bags_width, is_bags, is_bramble, least_width, width_answer
from fivealike.width.recipes import number_of, recipe_of
from helper import DOT, NO_WEB, RING, STRANGE, TWO, check_refused, full, grid, path, ring, some_names, some_web

TRIANGLE = (("tie", 0, 1), ("tie", 0, 2), ("tie", 1, 2), ("all", (0, 1, 2)), ("least", 1, 2, 3), ("least", 1, 1, 4), ("least", 1, 0, 5))
THREE = (("tie", 0, 1), ("tie", 0, 2), ("tie", 1, 2), ("glue", 0, 1), ("glue", 2, 3), ("sum", 2, 4), ("sum", 1, 5), ("sum", 0, 6))
PAIR, LOOSE = Web((0, 0), ((0, 1),)), Web((0, 0), ())
KINDS = ("spoiler", "sentence", "recipe")
OPPOSITES = (("alike", "apart"), ("solved", "barred"), ("narrow", "wide"), ("led", "shown"), ("same", "unlike"))


def pair(web):
    return (web.colours, web.ties)


def made_claim(word, k, depth, one, other):
    """The claim with this word, of these of what it tells of."""
    if word in ("alike", "apart"):
        return (word, k, depth, pair(one), pair(other))
    if word in ("narrow", "wide"):
        return (word, k, pair(one))
    return (word, pair(one), pair(other)) if word in ("same", "unlike") else (word, k, pair(one), pair(other))


def told(claim, paper):
    """Whether the judge of the stage that tells of such papers takes it; the webs have few rows."""
    word, webs = claim[0], [Web(*web) for web in claim if isinstance(web, tuple)]
    k = claim[1]
    if word == "alike":
        return is_table(*webs, k, paper) if claim[2] is None else is_ladder(*webs, k, claim[2], paper)
    if word == "apart":
        if not isinstance(paper, tuple) or len(paper) != 2:
            return False
        depth = 99 if claim[2] is None else claim[2]
        if paper[0] == "spoiler":
            return is_spoiler_table(*webs, k, paper[1]) and (claim[2] is None or paper[1][(), ()][0] <= depth)
        if paper[0] == "sentence":
            return is_parting_answer(*webs, k, depth, ("apart", paper[1]))
        return paper[0] == "recipe" and is_unlike_recipe(*webs, k, depth, paper[1])
    if word in ("solved", "barred"):
        return is_point(*webs, k, paper) if word == "solved" else are_bars(*webs, k, paper)
    if word == "narrow":
        return is_bags(*webs, paper) and bags_width(*webs, paper) <= k
    if word == "wide":
        return is_bramble(*webs, k, paper)
    if word == "led":
        return is_family(*webs, k, paper)
    if word == "shown":
        return is_side_answer(*webs, k, ("recipe", paper))
    return is_same(*webs, paper) if word == "same" else is_same_answer(*webs, ("unlike", paper))


def near_values(value):
    """Values that are much like this one: bent, cut, with a member more or less, True in the place of 1."""
    if isinstance(value, bool) or value is None:
        return [0]
    if isinstance(value, int):
        return [value + 1, value - 1, True, False, None, str(value), 10 ** 60]
    if isinstance(value, str):
        return [value + " ", "some", 0, ()]
    if isinstance(value, tuple):
        found = [list(value), value + value[-1:], value[:-1], value[1:], value[::-1], value + (0,), {}]
        for at in range(len(value)):
            found.append(value[:at] + value[at + 1:])
            found.extend([value[:at] + (bent,) + value[at + 1:] for bent in near_values(value[at])])
        return found
    found = [{}, tuple(value.items()), {**value, (): 0}, {**value, None: 1}]
    for key in value:
        rest = {other: worth for other, worth in value.items() if other != key}
        found.append(rest)
        found.extend([{**value, key: worth} for worth in near_values(value[key])])
        found.extend([{**rest, other: value[key]} for other in near_values(key) if is_hashable(other)])
    return found


def is_hashable(value):
    try:
        hash(value)
    except TypeError:
        return False
    return True


def some_claims():
    """Claims of all kinds about small webs, with few values near their papers."""
    webs = [NO_WEB, DOT, PAIR, LOOSE, path(3), full(3), Web((0, 1, 0), ((0, 1),)), Web((-1, 0), ((0, 1),))]
    pairs = list(itertools.product(webs, repeat=2)) + [(path(4), path(4)), (path(3), renamed(path(3), (1, 0, 2))), (full(4), path(4)), (ring(4), ring(4)),
                                                       (RING, TWO), (TWO, RING), (ring(5), full(3))]
    for at, (one, other) in enumerate(pairs):
        k, depth = at % 3 + 1, (0, 1, 2, 3, None, 99)[at % 6]
        if len(one) > 4:
            k = at % 2 + 1
        for word, _ in OPPOSITES:
            yield made_claim(word, k, depth, one, other)


class Claims(unittest.TestCase):
    def test_opposites(self):
        for one, other in OPPOSITES:
            for k, depth in ((1, 0), (2, None), (3, 99)):
                claim, against = made_claim(one, k, depth, DOT, PAIR), made_claim(other, k, depth, DOT, PAIR)
                self.assertIs(is_claim(claim), True)
                self.assertIs(is_claim(against), True)
                self.assertEqual((opposite(claim), opposite(against)), (against, claim))

    def test_bounds(self):
        for word, k, within in (("alike", 1, 40), ("apart", 2, 16), ("alike", 3, 8), ("led", 2, 16), ("shown", 3, 8), ("led", 1, 40), ("solved", 1, 17),
                                ("barred", 2, 6), ("solved", 3, 4), ("narrow", 1, 12), ("wide", 3, 12), ("same", 1, 16), ("unlike", 1, 16)):
            self.assertIs(is_claim(made_claim(word, k, 3, path(within), DOT)), True)
            self.assertIs(is_claim(made_claim(word, k, 3, path(within), path(within))), True)
            if within < 40:
                self.assertIs(is_claim(made_claim(word, k, 3, path(within + 1), DOT)), False)
                if word not in ("narrow", "wide"):
                    self.assertIs(is_claim(made_claim(word, k, 3, DOT, path(within + 1))), False)
        for k in (0, 4, True, None, "1", -1, 10 ** 99):
            for word in ("alike", "apart", "solved", "barred", "narrow", "wide", "led", "shown"):
                self.assertIs(is_claim(made_claim(word, k, 3, DOT, DOT)), False)
        for depth in (-1, 100, True, False, "3", (), 10 ** 99):
            self.assertIs(is_claim(made_claim("alike", 1, depth, DOT, DOT)), False)
            self.assertIs(is_claim(made_claim("apart", 1, depth, DOT, DOT)), False)

    def test_any_value(self):
        wrong = list(STRANGE) + [("alike",), ("same", pair(RING)), ("like", pair(RING), pair(RING)), ("Same", pair(RING), pair(RING)), (0, pair(RING), pair(RING)),
                                 [made_claim("same", 1, 1, RING, TWO)], list(made_claim("same", 1, 1, RING, TWO)), ("same", RING, TWO), ("narrow", 1, RING),
                                 (("same",), pair(RING), pair(TWO)), None, RING, ("same", pair(RING), pair(TWO), ())]
        for web in ((), ((0,),), ((0,), (), ()), [(0,), ()], ([0], ()), ((0,), []), ((10,), ()), ((-2,), ()), ((True,), ()), ((0, 0), ((1, 0),)), ((0, 0), ((0, 2),)),
                    ((0, 0), ((False, 1),)), ((0, 0), ((0, 1), (0, 1))), ((0, 0), ((0, 1, 1),)), ((0, 0), (0, 1)), ((0,) * 41, ()), ("00", ()), (None, ()),
                    ((0, 0), ([0, 1],)), ((0, 0, 0), ((0, 2), (0, 1)))):
            for word in [word for words in OPPOSITES for word in words]:
                claim = made_claim(word, 1, None, DOT, DOT)
                for at, member in enumerate(claim):
                    if isinstance(member, tuple):
                        wrong.append(claim[:at] + (web,) + claim[at + 1:])
        for value in wrong:
            self.assertIs(is_claim(value), False)
            check_refused(self, InvalidClaim(""), opposite, value)
            check_refused(self, InvalidClaim(""), takes, value, None)
            check_refused(self, InvalidClaim(""), answered, value)
            check_refused(self, InvalidClaim(""), answered, value, by=None)


class Answers(unittest.TestCase):
    def check_answer(self, claim, by, is_true):
        try:
            right, paper = answered(claim, by=by)
        except TooMany:
            return False
        self.assertEqual(right, claim if is_true else opposite(claim))
        self.assertIs(takes(right, paper), True)
        self.assertIs(takes(opposite(right), paper), False)
        self.assertTrue(told(right, paper))
        if right[0] == "apart":
            self.assertEqual(paper[0], by)
        self.assertEqual(answered(opposite(claim), by=by), (right, paper))
        return True

    def test_true_ones(self):
        """Of a claim and its opposite the true one is told, with a paper that is taken for it alone."""
        answers = 0
        for claim in some_claims():
            webs = [Web(*web) for web in claim if isinstance(web, tuple)]
            if claim[0] == "alike":
                depth = 99 if claim[2] is None else claim[2]
                is_true = are_alike(*webs, claim[1], depth)
            elif claim[0] == "solved":
                is_true = least_apart(*webs, claim[1]) is None
            elif claim[0] == "narrow":
                is_true = least_width(*webs) <= claim[1]
            elif claim[0] == "led":
                is_true = greatest_family(*webs, claim[1]) is not None
            else:
                is_true = same_answer(*webs)[0] == "same"
            for by in KINDS:
                answers += self.check_answer(claim, by, is_true)
        self.assertGreater(answers, 900)

    def test_depths_about_the_least_round(self):
        for one, other, k in ((RING, TWO, 2), (path(4), beside(path(2), path(2)), 1), (path(5, 0), path(5, 1), 1), (DOT, NO_WEB, 3)):
            least = least_apart(one, other, k)
            for depth in (0, least - 1, least, least + 1, 99, None):
                for by in KINDS:
                    right = answered(made_claim("alike", k, depth, one, other), by=by)[0]
                    self.assertEqual(right[0], "alike" if depth is not None and depth < least else "apart")
            for by in KINDS:
                paper = answered(made_claim("apart", k, None, one, other), by=by)[1]
                for depth in (0, least - 1, least, least + 1, 99, None):
                    self.assertIs(takes(made_claim("apart", k, depth, one, other), paper), depth is None or depth >= least)

    def test_for_ever(self):
        for one, other, k in ((RING, TWO, 1), (ring(8), beside(ring(4), ring(4)), 1), (twisted(full(3), ()), twisted(full(3), ((0, 1),)), 1), (path(4), path(4), 3)):
            for depth in (0, 5, 99, None):
                right, paper = answered(made_claim("apart", k, depth, one, other), by="sentence")
                self.assertEqual(right[0], "alike")
                self.assertEqual(isinstance(paper[0], dict), depth is None)
                self.assertTrue(takes(right, paper))

    def test_large(self):
        one, other = some_web(1, 16), some_web(2, 16)
        for claim in (made_claim("alike", 2, 99, one, one), made_claim("alike", 2, None, one, other), made_claim("alike", 1, 99, path(40), path(40)),
                      made_claim("apart", 1, 30, path(40, 5), path(40, 7)), made_claim("wide", 3, 0, grid(3, 4), DOT), made_claim("same", 0, 0, one, other),
                      made_claim("same", 0, 0, one, renamed(one, some_names(1, 16))), made_claim("solved", 1, 0, path(17), path(17)),
                      made_claim("barred", 2, 0, RING, TWO), made_claim("led", 1, 0, ring(9), ring(3)), made_claim("shown", 2, 0, ring(5), ring(4))):
            right, paper = answered(claim)
            self.assertTrue(takes(right, paper))
            self.assertFalse(takes(opposite(right), paper))

    def test_kinds(self):
        claim = made_claim("alike", 2, 3, RING, TWO)
        for by in STRANGE + ("Spoiler", "keeper", ("spoiler",), "spoiler "):
            check_refused(self, UnknownName(by), answered, claim, by=by)
            check_refused(self, UnknownName(by), answered, made_claim("same", 2, 3, RING, TWO), by=by)
        self.assertEqual([answered(claim, by=by)[1][0] for by in KINDS], list(KINDS))
        self.assertEqual(answered(claim), answered(claim, by="spoiler"))

    def test_errors_of_stages(self):
        check_refused(self, TooMany(512), answered, made_claim("apart", 2, 3, ring(9), path(9)), by="recipe")
        self.assertEqual(answered(made_claim("apart", 2, 3, ring(9), path(9)))[0][0], "apart")
        check_refused(self, TooMany(20000), answered, made_claim("led", 3, 0, path(8), path(8)))
        check_refused(self, TooMany(20000), answered, made_claim("shown", 2, 0, path(12), path(12)))

    def test_arguments_stay(self):
        claim = made_claim("alike", 2, None, RING, TWO)
        for by in KINDS:
            right, paper = answered(claim, by=by)
            kept = copy.deepcopy(paper)
            takes(right, paper)
            takes(claim, paper)
            self.assertEqual(paper, kept)


class Papers(unittest.TestCase):
    def test_near_papers(self):
        """Bent papers are taken just if the judges of the stages that tell of them do so."""
        looked = taken = 0
        for claim in some_claims():
            if claim[0] == "alike" and claim[2] == 99:
                # There are very many values near a long ladder.
                continue
            for by in KINDS:
                try:
                    right, paper = answered(claim, by=by)
                except TooMany:
                    continue
                if right[0] != "apart" and by != "spoiler":
                    continue
                values = near_values(paper)
                for value in values[::max(len(values) // 40, 1)]:
                    answer = told(right, value)
                    self.assertIs(takes(right, value), answer)
                    self.assertIs(takes(opposite(right), value), False)
                    looked += 1
                    taken += answer
        self.assertGreater(looked, 9000)
        self.assertGreater(taken, 150)

    def test_any_paper(self):
        for word in [word for words in OPPOSITES for word in words]:
            for one, other in ((DOT, DOT), (RING, TWO), (NO_WEB, NO_WEB), (PAIR, LOOSE)):
                for depth in (0, 2, None):
                    claim = made_claim(word, 2, depth, one, other)
                    for value in STRANGE + (RING, ("spoiler", None), ("sentence", None), ("recipe", None), ("spoiler", {}), ("spoiler", {((), ()): None}),
                                            ("sentence", (("all", ()),)), ("sentence", (("some", ()),)), ("recipe", (("one",),)), (("one",),), ({}, {}), (1, {}),
                                            {((), ()): ("many", None)}, {("first", (), 0): None}, {None: 1}, ((None,),), (((0,),), None), (((), ()),), (1, {(): 1})):
                        self.assertIn(takes(claim, value), (True, False))
                        self.assertIs(takes(claim, value), told(claim, value))

    def test_all_papers_of_small_webs(self):
        """Each way to number the rows of two points, all maps, all bags and lots of a small web."""
        rows = ((), (0,), (1,))
        for one, other in ((PAIR, PAIR), (PAIR, LOOSE)):
            dicts = [dict(zip(rows, (0,) + numbers)) for numbers in itertools.product(range(3), repeat=2)]
            pairs = list(itertools.product(dicts, repeat=2))
            for own in pairs:
                for depth, paper in ((None, own), (0, (own,)), (1, (own, own)), (1, (pairs[0], own))):
                    claim = made_claim("alike", 1, depth, one, other)
                    self.assertIs(takes(claim, paper), told(claim, paper))
        for images in itertools.product(range(4), repeat=4):
            claim = made_claim("same", 1, 1, path(4), path(4))
            self.assertIs(takes(claim, images), images in ((0, 1, 2, 3), (3, 2, 1, 0)))
        lots = [lot for many in range(4) for lot in itertools.combinations(range(3), many)]
        for web in (full(3), path(3), Web((0,) * 3, ())):
            for chosen in itertools.product(lots, repeat=2):
                for above in ((None, 0), (1, None), (None, None), (1, 0), (0, None)):
                    claim = made_claim("narrow", 1, 1, web, web)
                    self.assertIs(takes(claim, (chosen, above)), told(claim, (chosen, above)))
                claim = made_claim("wide", 1, 1, web, web)
                self.assertIs(takes(claim, chosen), told(claim, chosen))
                self.assertIs(takes(claim, chosen + ((0,), (1,))), told(claim, chosen + ((0,), (1,))))

    def test_papers_of_other_makers(self):
        claim = made_claim("apart", 2, 3, RING, TWO)
        pattern, above, labels = unlike_forest(RING, TWO, 2)
        bags = (((0, 1, 2),), (None,))
        papers = [("sentence", TRIANGLE), ("sentence", not_of(2, TRIANGLE)), ("sentence", both(2, TRIANGLE, TRIANGLE)), ("sentence", parting_sentence(TWO, RING, 2)),
                  ("recipe", THREE), ("recipe", recipe_of(full(3, -1), bags, 2)), ("recipe", recipe_of_forest(pattern, 2, (above, labels))),
                  ("recipe", unlike_recipe(TWO, RING, 2, 3))]
        for paper in papers:
            self.assertIs(takes(claim, paper), True)
            self.assertIs(takes(made_claim("apart", 2, None, TWO, RING), paper), True)
            self.assertIs(takes(made_claim("apart", 2, 2, RING, TWO), paper), False)
            self.assertIs(takes(made_claim("apart", 1, 3, RING, TWO), paper), False)
            # Under another kind's word a paper is none.
            for word in KINDS:
                self.assertIs(takes(claim, (word, paper[1])), word == paper[0])
        self.assertIs(takes(made_claim("shown", 2, 0, TWO, RING), THREE), True)
        self.assertIs(takes(made_claim("shown", 2, 0, RING, TWO), THREE), False)
        self.assertIs(takes(made_claim("alike", 1, None, RING, TWO), stable_names((RING, TWO), 1)), True)
        turn = map_point(RING, RING, 1, (1, 2, 3, 4, 5, 0))
        for point in (turn, mixed_point(RING, RING, 1, turn, point_of(RING, RING, 1))):
            self.assertIs(takes(made_claim("solved", 1, 0, RING, RING), point), True)
        self.assertIs(takes(made_claim("narrow", 2, 0, RING, RING), bags_along(RING, (3, 1, 0, 2, 5, 4))), True)
        self.assertIs(takes(made_claim("wide", 1, 0, RING, RING), ((0,), (1,), (2, 3, 4, 5))), True)
        for images in maps_of(ring(4), ring(4))[::3]:
            self.assertIs(takes(made_claim("same", 0, 0, ring(4), ring(4)), images), len(set(images)) == 4)
        # Of the families of the path into itself not just the greatest one is taken.
        kept = tuple(sorted([part for many in range(3) for part in itertools.combinations([(at, at) for at in range(3)], many)]))
        self.assertIs(takes(made_claim("led", 1, 0, path(3), path(3)), kept), True)
        self.assertIs(takes(made_claim("led", 1, 0, path(3), path(3)), greatest_family(path(3), path(3), 1)), True)
        bars = program_answer(RING, TWO, 2)[1]
        self.assertIs(takes(made_claim("barred", 2, 0, RING, TWO), {total: 3 * 10 ** 50 * number for total, number in bars.items()}), True)
        self.assertIs(takes(made_claim("barred", 2, 0, RING, TWO), {total: -number for total, number in bars.items()}), False)

    def test_long_papers(self):
        claim = made_claim("apart", 2, 3, RING, TWO)
        rows = 6 ** 3
        most = 400000 // rows
        self.assertEqual(most, 1851)
        for lines, right in ((most, True), (most + 1, False), (2000, False), (2001, False)):
            sentence = (("all", ()),) * (lines - 7) + tuple([self.moved(line, lines - 7) for line in TRIANGLE])
            recipe = (("one",),) * (lines - 8) + tuple([self.moved(line, lines - 8) for line in THREE])
            self.assertEqual((len(sentence), len(recipe)), (lines, lines))
            self.assertIs(takes(claim, ("sentence", sentence)), right)
            self.assertIs(takes(claim, ("recipe", recipe)), right)
            self.assertIs(takes(made_claim("shown", 2, 3, TWO, RING), recipe), right)
        small = made_claim("apart", 2, 3, full(3), Web((0,) * 3, ()))
        for lines in (2000, 2001):
            self.assertIs(takes(small, ("sentence", (("all", ()),) * (lines - 7) + tuple([self.moved(line, lines - 7) for line in TRIANGLE]))), lines == 2000)
            self.assertIs(takes(small, ("recipe", (("one",),) * (lines - 8) + tuple([self.moved(line, lines - 8) for line in THREE]))), lines == 2000)
        # The rows of the greater web count, whichever it is.
        for one, other in ((DOT, path(16)), (path(16), DOT)):
            claim = made_claim("apart", 2, None, one, other)
            for lines in (97, 98):
                self.assertIs(takes(claim, ("sentence", (("all", ()),) * (lines - 1) + (("least", 2, 0, 0),))), lines == 97)
                self.assertIs(takes(claim, ("recipe", (("point", 0),) * (lines - 1) + (("sum", 0, 0),))), lines == 97)

    def moved(self, line, by):
        """The line with its indices of others moved."""
        if line[0] == "all":
            return ("all", tuple([at + by for at in line[1]]))
        if line[0] == "least":
            return line[:3] + (line[3] + by,)
        if line[0] == "glue":
            return ("glue", line[1] + by, line[2] + by)
        return ("sum", line[1], line[2] + by) if line[0] == "sum" else line

    def test_great_numbers(self):
        """A recipe that counts more than can be written shows that its number is above 0."""
        recipe = (("point", 0), ("sum", 0, 0)) + tuple([("glue", at, at) for at in range(1, 1500)])
        self.assertIs(takes(made_claim("shown", 1, 0, path(3), NO_WEB), recipe), True)
        self.assertIs(takes(made_claim("shown", 1, 0, NO_WEB, path(3)), recipe), False)

    def test_depths_of_papers(self):
        """Spoilers' tables and recipes are for some depth, and for all later ones."""
        one, other = path(6, 0), path(6, 1)
        least = least_apart(one, other, 1)
        for by in KINDS:
            paper = answered(made_claim("apart", 1, None, one, other), by=by)[1]
            self.assertEqual([takes(made_claim("apart", 1, depth, one, other), paper) for depth in range(least + 3)], [False] * least + [True] * 3)
        table = answered(made_claim("apart", 1, None, one, other))[1][1]
        slow = {position: (moves + 4, left, right) for position, (moves, left, right) in table.items()}
        self.assertEqual([takes(made_claim("apart", 1, depth, one, other), ("spoiler", slow)) for depth in (least, least + 3, least + 4, None)],
                         [False, False, True, True])

    def test_untrue(self):
        # One paper for two claims; and a ladder that is none for a lesser depth.
        self.assertTrue(takes(made_claim("same", 0, 0, ring(4), ring(4)), (1, 2, 3, 0)) and takes(made_claim("same", 0, 0, path(1), path(1)), (0,)))
        self.assertTrue(takes(made_claim("narrow", 1, 0, path(2), DOT), (((0, 1),), (None,))) and takes(made_claim("narrow", 2, 0, LOOSE, DOT), (((0, 1),), (None,))))
        ladder = answered(made_claim("alike", 1, 2, RING, TWO))[1]
        self.assertFalse(takes(made_claim("alike", 1, 1, RING, TWO), ladder))

    def test_across_stages(self):
        for one, other, k in ((ring(5), full(3), 2), (path(3), full(3), 1), (full(3), path(2), 2)):
            kind, paper = side_answer(one, other, k)
            self.assertIs(takes(made_claim("led" if kind == "family" else "shown", k, 0, one, other), paper), True)
            if kind == "recipe":
                self.assertEqual([number_of(paper, k, web) > 0 for web in (one, other)], [True, False])
        for web in (RING, TWO, grid(3, 3), path(5), full(5)):
            for k in (1, 2, 3):
                kind, paper = width_answer(web, k)
                self.assertIs(takes(made_claim("narrow" if kind == "bags" else "wide", k, 0, web, web), paper), True)
        self.assertIs(takes(made_claim("alike", 1, None, RING, TWO), for_ever(RING, TWO, 1)[1]), True)


if __name__ == "__main__":
    unittest.main()
