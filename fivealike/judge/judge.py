"""Claims about webs, and whether papers show them."""
from fivealike.errors import InvalidClaim
from fivealike.judge.families import is_family
from fivealike.judge.games import wins_within
from fivealike.judge.graphs import graph_of, is_web
from fivealike.judge.ladders import is_ladder, is_table
from fivealike.judge.plain import is_between, is_tuple_of, power_of
from fivealike.judge.programs import are_bars, is_point
from fivealike.judge.recipes import is_above_nought, is_recipe, number_in, recipe_depth
from fivealike.judge.sames import are_tries_of, is_same_map
from fivealike.judge.sayings import is_sentence, is_true, sentence_depth
from fivealike.judge.widths import are_bags, is_bramble

OPPOSITES = {"alike": "apart", "apart": "alike", "solved": "barred", "barred": "solved", "narrow": "wide",
             "wide": "narrow", "led": "shown", "shown": "led", "same": "unlike", "unlike": "same"}
GREATEST_K = 3
GREATEST_DEPTH = 99
MOST_ROWS = 4096
MOST_LESSER = 300
MOST_WIDE = 12
MOST_SAME = 16
MOST_WORK = 400000


def is_k(value):
    """Whether the value is 1, 2 or 3."""
    return is_between(value, 1, GREATEST_K)


def are_webs(values, most, length):
    """Whether all values are webs with at most so many rows of this length."""
    return all([is_web(value) and power_of(len(value[0]), length) <= most for value in values])


def is_claim(value):
    """Whether the value is a claim."""
    if not isinstance(value, tuple) or len(value) == 0 or not isinstance(value[0], str):
        return False
    word, told = value[0], value[1:]
    if word in ("alike", "apart"):
        if len(told) != 4 or not is_k(told[0]) or not (told[1] is None or is_between(told[1], 0, GREATEST_DEPTH)):
            return False
        return are_webs(told[2:], MOST_ROWS, told[0] + 1)
    if word in ("solved", "barred", "led", "shown"):
        if len(told) != 3 or not is_k(told[0]):
            return False
        return are_webs(told[1:], MOST_LESSER if word in ("solved", "barred") else MOST_ROWS, told[0] + 1)
    if word in ("narrow", "wide"):
        return len(told) == 2 and is_k(told[0]) and are_webs(told[1:], MOST_WIDE, 1)
    return word in OPPOSITES and len(told) == 2 and are_webs(told, MOST_SAME, 1)


def check_claim(claim):
    """Refuses what is no claim."""
    if not is_claim(claim):
        raise InvalidClaim("a claim is asked for")


def opposite(claim):
    """The opposite claim."""
    check_claim(claim)
    return (OPPOSITES[claim[0]],) + claim[1:]


def fits_work(lines, one, other, k):
    """Whether the lines times the rows of k + 1 points of the greater graph are no more than can be looked at."""
    return len(lines) * power_of(max(one.many, other.many), k + 1) <= MOST_WORK


def does_part(k, depth, one, other, paper):
    """Whether the paper shows that both graphs are apart at the depth, at some depth if it is None."""
    if not is_tuple_of(paper, 2) or not isinstance(paper[0], str):
        return False
    word, told = paper
    if word == "spoiler":
        return wins_within(one, other, k, depth, told)
    if word == "sentence":
        if not is_sentence(k, told) or not fits_work(told, one, other, k):
            return False
        return (depth is None or sentence_depth(told) <= depth) and is_true(one, k, told) != is_true(other, k, told)
    if word != "recipe" or not is_recipe(k, told) or not fits_work(told, one, other, k):
        return False
    return (depth is None or recipe_depth(told) <= depth) and number_in(one, k, told) != number_in(other, k, told)


def does_show(k, one, other, paper):
    """Whether the paper is a recipe with a number above 0 on the one graph, and 0 on the other one."""
    if not is_recipe(k, paper) or not fits_work(paper, one, other, k):
        return False
    return is_above_nought(one, k, paper) and not is_above_nought(other, k, paper)


def takes_of_two(word, told, one, other, paper):
    """Whether the paper shows a claim of two graphs, told what stands between the word and these."""
    if word == "alike" and told[1] is None:
        return is_table(one, other, told[0], paper)
    if word == "alike":
        return is_ladder(one, other, told[0], told[1], paper)
    if word == "apart":
        return does_part(told[0], told[1], one, other, paper)
    if word == "solved":
        return is_point(one, other, told[0], paper)
    if word == "barred":
        return are_bars(one, other, told[0], paper)
    if word == "led":
        return is_family(one, other, told[0], paper)
    if word == "shown":
        return does_show(told[0], one, other, paper)
    return is_same_map(one, other, paper) if word == "same" else are_tries_of(one, (), other, (), paper)


def takes(claim, paper):
    """Whether the paper shows the claim."""
    check_claim(claim)
    word = claim[0]
    if word == "narrow":
        return are_bags(graph_of(claim[2]), claim[1] + 1, paper)
    if word == "wide":
        return is_bramble(graph_of(claim[2]), claim[1], paper)
    return takes_of_two(word, claim[1:-2], graph_of(claim[-2]), graph_of(claim[-1]), paper)
