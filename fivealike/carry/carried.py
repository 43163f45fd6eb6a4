"""What is carried along: ladders and tables of webs made of others, and recipes of pieces."""
from fivealike.carry.splitting import recipes_of_pieces
from fivealike.colour.fields import fields_of, index_of
from fivealike.colour.ladders import dicts_of, is_some_ladder_of, is_table_of, ladder_told
from fivealike.colour.names import do_agree, names_there, numbers_up_to, rounds_up_to
from fivealike.errors import InvalidNumber, InvalidOperation, InvalidTable, TooMany, UnknownName
from fivealike.pattern.closure import numbers_unlike
from fivealike.plain import is_between, is_integer
from fivealike.web.checks import check_couple, check_depth, check_k, check_rows
from fivealike.web.maps import times
from fivealike.web.webs import GREATEST_COLOUR, LEAST_COLOUR, Web, beside, joined
from fivealike.width.bags import bags_along
from fivealike.width.hanging import written
from fivealike.width.recipes import MOST_LINES, check_closed, check_pattern, check_work, places_checked, web_of_shape
from fivealike.width.shapes import last_shape

WORDS = ("beside", "joined", "times")


def check_word(word):
    """Refuses what is no word for making one web of two."""
    if not isinstance(word, str) or word not in WORDS:
        raise UnknownName(word)


def made_of(word, one, other):
    """The web that the word makes of two webs."""
    if word == "beside":
        return beside(one, other)
    return joined(one, other) if word == "joined" else times(one, other)


def made_webs(word, one, other, first, last):
    """The pair of the web made of the one and the first, and of that made of the other and the last."""
    check_word(word)
    check_couple(one, other)
    check_couple(first, last)
    return (made_of(word, one, first), made_of(word, other, last))


def check_ladder(one, other, k, ladder):
    """Refuses what is no ladder of both webs to some depth."""
    if not is_some_ladder_of(one, other, k, ladder):
        raise InvalidTable("a ladder of both webs is asked for")


def check_table(one, other, k, table):
    """Refuses what is no table of both webs."""
    if not is_table_of(one, other, k, table):
        raise InvalidTable("a table of both webs is asked for")


def check_begun(word, k, one, other):
    """Refuses what is no word, no k and what are no webs."""
    check_word(word)
    check_k(k)
    check_couple(one, other)


def ladder_between(one, other, k, depth):
    """The ladder of the names of both webs, which are alike to the depth."""
    fields = fields_of((one, other), k)
    return ladder_told(fields, numbers_up_to(fields, depth), depth)


def carried_ladder(word, k, one, other, ladder, first, last, more):
    """A ladder of the webs that the word makes of two pairs of webs with ladders of the same depth."""
    check_begun(word, k, one, other)
    check_ladder(one, other, k, ladder)
    check_couple(first, last)
    check_ladder(first, last, k, more)
    if len(ladder) != len(more):
        raise InvalidOperation("ladders of the same depth are asked for")
    made = made_webs(word, one, other, first, last)
    check_rows(made, k)
    # What is made of alike webs is alike: so the names of the made webs are a ladder.
    return ladder_between(made[0], made[1], k, len(ladder) - 1)


def carried_table(word, k, one, other, table, first, last, more):
    """A table of the webs that the word makes of two pairs of webs with tables."""
    check_begun(word, k, one, other)
    check_table(one, other, k, table)
    check_couple(first, last)
    check_table(first, last, k, more)
    made = made_webs(word, one, other, first, last)
    check_rows(made, k)
    fields = fields_of(made, k)
    return dicts_of(fields, numbers_up_to(fields, None)[-1])


def are_colours_for(names, value):
    """Whether the value is a dict from just these names to colours."""
    if not isinstance(value, dict) or not all([is_integer(name) for name in value]):
        return False
    if sorted(value) != sorted(set(names)):
        return False
    return all([is_between(colour, LEAST_COLOUR, GREATEST_COLOUR) for colour in list(value.values())])


def point_names(web, names):
    """The list of the names of the rows of one point, told those of all rows."""
    return [names[index_of(len(web), (point,))] for point in range(len(web))]


def recoloured_ladder(k, one, other, depth, at, colours):
    """Both webs recoloured by the names of their points at a round, and a ladder of these for what is left."""
    check_k(k)
    check_couple(one, other)
    check_depth(depth)
    if not is_between(at, 0, depth):
        raise InvalidNumber(at)
    check_rows((one, other), k)
    fields = fields_of((one, other), k)
    rounds = rounds_up_to(fields, depth)
    by_web = [point_names(web, names) for web, names in zip((one, other), names_there(rounds, at))]
    if not are_colours_for(by_web[0] + by_web[1], colours):
        raise InvalidOperation("a colour for each name of a point is asked for")
    if not all([do_agree(names) for names in rounds]):
        raise InvalidOperation("the webs are apart at the depth")
    made = [Web(tuple([colours[name] for name in names]), web.ties) for web, names in zip((one, other), by_web)]
    return (made[0], made[1], ladder_between(made[0], made[1], k, depth - at))


def cancelled(word, k, one, other, third, ladder):
    """A ladder of two webs that have one when the word makes one web of each of them and a third one."""
    check_word(word)
    if word == "times":
        raise InvalidOperation("what is alike times a web need not be alike")
    check_k(k)
    check_couple(one, other)
    made = made_webs(word, one, other, third, third)
    check_ladder(made[0], made[1], k, ladder)
    check_rows(made, k)
    return ladder_between(one, other, k, len(ladder) - 1)


def shorter_recipe(recipe, k, most):
    """The recipe itself, or, if it has more lines than this, a shorter one of the same pattern, if that is shorter."""
    if len(recipe) <= most:
        return recipe
    pattern = web_of_shape(last_shape(recipe))
    bags, above = bags_along(pattern, tuple(range(len(pattern))))
    other = written(pattern, bags, above, k)
    return other if len(other) < len(recipe) else recipe


def pieces_told(recipe, k):
    """The recipes of the pieces of the pattern of this, which is a recipe."""
    check_pattern(recipe)
    recipes = [shorter_recipe(piece, k, len(recipe)) for piece in recipes_of_pieces(recipe)]
    if not all([len(piece) <= MOST_LINES for piece in recipes]):
        raise TooMany(MOST_LINES)
    return tuple(recipes)


def pieces_of(recipe, k):
    """Recipes, one for each piece of the pattern, whose numbers multiply to that of the recipe."""
    check_closed(places_checked(recipe, k))
    return pieces_told(recipe, k)


def check_numbers(recipe, k, one, other):
    """Refuses what is no recipe, what are no webs, and too many rows or too much work on them."""
    check_closed(places_checked(recipe, k))
    check_couple(one, other)
    check_rows((one, other), k)
    for web in (one, other):
        check_work(recipe, k, web)


def piece_apart(recipe, k, one, other):
    """A recipe of unlike numbers on both webs, whose pattern hangs together, by one with unlike numbers."""
    check_numbers(recipe, k, one, other)
    if not numbers_unlike(recipe, k, (one, other)):
        raise InvalidOperation("a recipe with unlike numbers on both webs is asked for")
    return [piece for piece in pieces_told(recipe, k) if numbers_unlike(piece, k, (one, other))][0]
