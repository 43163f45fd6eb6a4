"""Sentences that part webs, and lines that tell the names of rows."""
from fivealike.colour.alike import check_pair, check_pair_to
from fivealike.colour.apart import least_between
from fivealike.colour.fields import fields_of, index_of, rows_of
from fivealike.colour.ladders import is_ladder_of, ladder_told
from fivealike.colour.names import names_there, rounds_to_part, numbers_up_to
from fivealike.errors import InvalidOperation, InvalidRow, InvalidSentence
from fivealike.plain import is_told
from fivealike.say.kinds import Kinds
from fivealike.say.sentences import depths_of, free_of, holds_in, is_sentence_of, last_truth
from fivealike.say.truth import Grid
from fivealike.say.writing import Writer
from fivealike.web.checks import check_depth, check_k, check_level, check_rows, check_webs
from fivealike.web.webs import is_row_of

MOST_SENTENCES = 20


def sentence_of(webs, fields, rounds):
    """A sentence that is true of the first web alone, told the rounds at which both are alike."""
    writer = Writer(webs, Kinds(fields, rounds))
    return writer.told_alone(writer.lines_apart(len(rounds), (), (0, ()), [(1, ())]))


def parting_answer(one, other, k, depth):
    """A ladder to the depth, or a sentence of at most this depth that is true of just one of the webs."""
    check_pair_to(one, other, k, depth)
    fields = fields_of((one, other), k)
    rounds, least = rounds_to_part(fields, depth)
    if least is None:
        return ("alike", ladder_told(fields, rounds, depth))
    return ("apart", sentence_of((one, other), fields, rounds))


def depth_of(sentence):
    """The depth of the last line."""
    return depths_of(sentence)[len(sentence) - 1]


def is_parting_answer(one, other, k, depth, value):
    """Whether the value is a right answer of `parting_answer`."""
    check_pair_to(one, other, k, depth)
    if is_told(value, "alike"):
        return is_ladder_of(one, other, k, depth, value[1])
    if not is_told(value, "apart") or not is_sentence_of(k, value[1]) or depth_of(value[1]) > depth:
        return False
    return holds_in(k, value[1], one) != holds_in(k, value[1], other)


def parting_sentence(one, other, k):
    """A sentence of the least depth that is true of the one web and not of the other; None if there is none."""
    check_pair(one, other, k)
    if least_between(one, other, k, None) is None:
        return None
    fields = fields_of((one, other), k)
    return sentence_of((one, other), fields, rounds_to_part(fields, None)[0])


def is_parting_sentence(one, other, k, value):
    """Whether the value is a right answer of `parting_sentence`."""
    check_pair(one, other, k)
    least = least_between(one, other, k, None)
    if least is None or value is None:
        return least is None and value is None
    if not is_sentence_of(k, value) or depth_of(value) > least:
        return False
    return holds_in(k, value, one) and not holds_in(k, value, other)


def check_named(webs, k, depth, row):
    """Refuses what is asked for where no name of a row is told."""
    check_webs(webs)
    check_k(k)
    check_depth(depth)
    if not is_row_of(webs[0], row):
        raise InvalidRow("a row of the first web is asked for")
    if len(row) > k:
        raise InvalidOperation("the row has more than k points")
    check_rows(webs, k)


def unlike_webs(webs):
    """The list of the webs without those that are equal to one ahead: what is true in both is the same."""
    return [web for at, web in enumerate(webs) if web not in webs[:at]]


def name_line(webs, k, depth, row):
    """A saying whose last line is true just with the rows that have the name of this one at the round."""
    check_named(webs, k, depth, row)
    unlike = unlike_webs(webs)
    fields = fields_of(unlike, k)
    kinds = Kinds(fields, numbers_up_to(fields, depth))
    last = len(kinds.rounds) - 1
    own = kinds.name_at(last, (0, row))
    others = {}
    for which, web in enumerate(unlike):
        for goal in rows_of(len(web), len(row)):
            name = kinds.name_at(last, (which, goal))
            if name != own:
                others.setdefault(name, (which, goal))
    writer = Writer(unlike, kinds)
    names = tuple(range(len(row)))
    return writer.told_alone(writer.lines_apart(last, names, (0, row), list(others.values())))


def is_true_just_there(web, k, saying, names, length, own, name):
    """Whether the last line is true in the web just with the rows of this length that have the name."""
    grid = Grid(web, k)
    truth = last_truth(grid, saying)
    for row in rows_of(len(web), length):
        points = tuple([row[at] for at in names])
        if grid.is_true_with(names, points, truth) != (own[index_of(len(web), row)] == name):
            return False
    return True


def is_name_line(webs, k, depth, row, value):
    """Whether the value is a right answer of `name_line`."""
    check_named(webs, k, depth, row)
    free = free_of(k, value)
    if free is None or depth_of(value) > depth:
        return False
    names = free[len(free) - 1]
    if not all([name < len(row) for name in names]):
        return False
    unlike = unlike_webs(webs)
    all_names = names_there(numbers_up_to(fields_of(unlike, k), depth), depth)
    name = all_names[0][index_of(len(webs[0]), row)]
    return all([is_true_just_there(web, k, value, names, len(row), own, name) for web, own in zip(unlike, all_names)])


def least_depth(one, other, k):
    """The least depth of a sentence that parts the webs, None without any."""
    check_pair(one, other, k)
    return least_between(one, other, k, None)


def agree(one, other, k, sentences):
    """The tuple that tells for each of the sentences whether it is true of both webs or of none."""
    check_level(one, other, k)
    if not isinstance(sentences, tuple) or len(sentences) > MOST_SENTENCES:
        raise InvalidSentence("a tuple of at most 20 sentences for k is asked for")
    if not all([is_sentence_of(k, sentence) for sentence in sentences]):
        raise InvalidSentence("a tuple of at most 20 sentences for k is asked for")
    check_rows((one, other), k)
    return tuple([holds_in(k, sentence, one) == holds_in(k, sentence, other) for sentence in sentences])
