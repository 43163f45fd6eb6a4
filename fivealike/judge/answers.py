"""The true one of a claim and its opposite, with a paper for it."""
from fivealike.colour.alike import alike_answer, for_ever
from fivealike.errors import TooMany, UnknownName
from fivealike.game.tokens import game_answer
from fivealike.judge.judge import MOST_WORK, check_claim, opposite
from fivealike.pattern.closure import unlike_recipe
from fivealike.program.bars import program_answer
from fivealike.same.search import same_answer
from fivealike.say.parting import parting_answer, parting_sentence
from fivealike.side.keepers import side_answer
from fivealike.web.checks import GREATEST_DEPTH
from fivealike.web.webs import Web
from fivealike.width.bags import width_answer
from fivealike.width.recipes import fits_work

KINDS = ("spoiler", "sentence", "recipe")
# For each word of an answer of another stage that of the claim that it shows.
SHOWN = {"point": "solved", "bars": "barred", "bags": "narrow", "bramble": "wide", "family": "led",
         "recipe": "shown", "same": "same", "unlike": "unlike"}


def alike_told(one, other, k, depth):
    """The pair of "alike" and a ladder or table, or of "apart" and the least round."""
    return for_ever(one, other, k) if depth is None else alike_answer(one, other, k, depth)


def told_by_spoiler(one, other, k, depth):
    """The pair of "alike" or "apart" and of a paper for it, which the game tells."""
    word, paper = game_answer(one, other, k, depth)
    return ("alike", paper) if word == "keeper" else ("apart", (word, paper))


def told_by_sentence(one, other, k, depth):
    """The same, where a sentence parts the webs."""
    if depth is not None:
        word, paper = parting_answer(one, other, k, depth)
    else:
        paper = parting_sentence(one, other, k)
        word, paper = for_ever(one, other, k) if paper is None else ("apart", paper)
    return (word, paper) if word == "alike" else (word, ("sentence", paper))


def told_by_recipe(one, other, k, depth):
    """The same, where a recipe with unlike numbers parts the webs."""
    answer = alike_told(one, other, k, depth)
    if answer[0] == "alike":
        return answer
    return ("apart", ("recipe", unlike_recipe(one, other, k, GREATEST_DEPTH if depth is None else depth)))


def told_of_alike(one, other, k, depth, by):
    """The pair of "alike" or "apart" and of a paper for it, a paper of this kind where it is "apart"."""
    if by == "spoiler":
        return told_by_spoiler(one, other, k, depth)
    word, paper = told_by_sentence(one, other, k, depth) if by == "sentence" else told_by_recipe(one, other, k, depth)
    if word == "apart" and not fits_work(paper[1], (one, other), k):
        raise TooMany(MOST_WORK)
    return (word, paper)


def told_of(word, told, webs, by):
    """The pair of the word of the true claim and of a paper for it, told what stands between the word and the webs."""
    if word in ("alike", "apart"):
        return told_of_alike(webs[0], webs[1], told[0], told[1], by)
    if word in ("solved", "barred"):
        found, paper = program_answer(webs[0], webs[1], told[0])
    elif word in ("narrow", "wide"):
        found, paper = width_answer(webs[0], told[0])
    elif word in ("led", "shown"):
        found, paper = side_answer(webs[0], webs[1], told[0])
    else:
        found, paper = same_answer(webs[0], webs[1])
    return (SHOWN[found], paper)


def answered(claim, *, by="spoiler"):
    """The pair of the true one of the claim and its opposite, and of a paper for it."""
    check_claim(claim)
    if not isinstance(by, str) or by not in KINDS:
        raise UnknownName(by)
    many = 1 if claim[0] in ("narrow", "wide") else 2
    webs = [Web(colours, ties) for colours, ties in claim[len(claim) - many:]]
    word, paper = told_of(claim[0], claim[1:len(claim) - many], webs, by)
    return (claim if word == claim[0] else opposite(claim), paper)
