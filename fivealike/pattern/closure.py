"""What recipes tell apart: independent tables, as many as types, and recipes with unlike numbers."""
from fivealike.colour.alike import check_pair_to
from fivealike.colour.fields import fields_of, rows_of
from fivealike.colour.names import names_there, rounds_to_part, numbers_up_to
from fivealike.errors import InvalidNumber, InvalidRecipe, TooMany
from fivealike.linear import are_independent, undone
from fivealike.pattern.growing import basis_of, recipe_at
from fivealike.pattern.spaces import Space, numbers_of_types, type_number
from fivealike.plain import is_between, power_up_to
from fivealike.web.checks import check_depth, check_level, check_rows
from fivealike.width.lines import depths_of, lines_alone
from fivealike.width.recipes import fits_work, places_open
from fivealike.width.tables import last_table, picked

MOST_KEPT = 64
MOST_SPOTS = 512


def check_asked(one, other, k, m, depth):
    """Refuses what are no webs, no k, no number of points and no depth."""
    check_level(one, other, k)
    if not is_between(m, 0, k + 1):
        raise InvalidNumber(m)
    check_depth(depth)


def check_closure(one, other, k):
    """Refuses webs with more rows of k + 1 points than the closure limit lets."""
    for web in (one, other):
        if power_up_to(len(web), k + 1, MOST_SPOTS) > MOST_SPOTS:
            raise TooMany(MOST_SPOTS)


def check_kept(fields, names):
    """Refuses too many types of rows of k + 1 points."""
    if type_number(fields, names, fields[0].k + 1) > MOST_KEPT:
        raise TooMany(MOST_KEPT)


def types_at(one, other, k, m, depth):
    """The pair of the dicts from the rows of m points of both webs to the numbers of their types."""
    check_asked(one, other, k, m, depth)
    check_rows((one, other), k)
    types = types_of((one, other), k, m, depth)
    return tuple([dict(zip(rows_of(len(web), m), own)) for web, own in zip((one, other), types)])


def types_of(webs, k, m, depth):
    """For each web the list of the numbers of the types of its rows of m points."""
    fields = fields_of(webs, k)
    return numbers_of_types(fields, names_there(numbers_up_to(fields, depth), depth), m)


def kept_recipes(one, other, k, m, depth):
    """Open recipes whose tables on the rows of m points are independent, as many as there are types."""
    check_asked(one, other, k, m, depth)
    check_closure(one, other, k)
    fields = fields_of((one, other), k)
    rounds = numbers_up_to(fields, depth)
    check_kept(fields, rounds[-1])
    grower, basis = basis_of(Space(fields, rounds, m, len(rounds) - 1), m)
    return tuple([recipe_at(grower, table.line) for table in basis])


def is_kept(webs, k, m, depth, value):
    """Whether the value is an open recipe that can be kept."""
    places = places_open(k, value)
    if places is None or not fits_work(value, webs, k):
        return False
    if not all([place < m for place in places[len(places) - 1]]):
        return False
    return depths_of(value)[len(value) - 1] <= depth


def samples_of(types):
    """For each type the pair of a web's index and the index of a row, told the types of the rows of both webs."""
    found = {}
    for which, own in enumerate(types):
        for at, told in enumerate(own):
            found.setdefault(told, (which, at))
    return [found[told] for told in range(len(found))]


def values_of(recipe, webs, k, rows, samples):
    """The list of the values of the last line's table on the rows that the samples tell."""
    needed = lines_alone(recipe)
    places = places_open(k, needed)
    tables = [last_table(needed, places, web) for web in webs]
    own = places[len(places) - 1]
    return [tables[which].get(picked(rows[which][at], own), 0) for which, at in samples]


def values_kept(one, other, k, m, depth, value):
    """For each recipe the list of its values on all types, None if the value is not as `kept_recipes` tells."""
    webs = (one, other)
    types = types_of(webs, k, m, depth)
    samples = samples_of(types)
    if not isinstance(value, tuple) or len(value) != len(samples):
        return None
    if not all([is_kept(webs, k, m, depth, recipe) for recipe in value]):
        return None
    rows = [rows_of(len(web), m) for web in webs]
    values = [values_of(recipe, webs, k, rows, samples) for recipe in value]
    return values if are_independent(values) else None


def are_kept(one, other, k, m, depth, value):
    """Whether the value is a right answer of `kept_recipes`."""
    check_asked(one, other, k, m, depth)
    check_closure(one, other, k)
    return values_kept(one, other, k, m, depth, value) is not None


def type_sums(one, other, k, m, depth, recipes):
    """For each type an E and multiples of the recipes' tables that add up to E on its rows, to 0 elsewhere."""
    check_asked(one, other, k, m, depth)
    check_closure(one, other, k)
    values = values_kept(one, other, k, m, depth, recipes)
    if values is None:
        raise InvalidRecipe("recipes as `kept_recipes` tells them are asked for")
    return tuple(undone([[own[at] for own in values] for at in range(len(values))]))


def unlike_recipe(one, other, k, depth):
    """A recipe of at most this depth with unlike numbers for both webs, None if they are alike to it."""
    check_pair_to_closure(one, other, k, depth)
    fields = fields_of((one, other), k)
    rounds, least = rounds_to_part(fields, depth)
    return None if least is None else unlike_told(fields, rounds)


def check_pair_to_closure(one, other, k, depth):
    """Refuses what are no webs, no k and no depth, and webs with too many rows."""
    check_level(one, other, k)
    check_depth(depth)
    check_closure(one, other, k)


def unlike_told(fields, rounds):
    """A recipe with unlike numbers, told the rounds ahead of that from which on the webs are apart."""
    check_kept(fields, rounds[-1])
    space = Space(fields, rounds, 1, len(rounds) - 1)
    grower, basis = basis_of(space, 1)
    counts = space.counts(1)
    unlike = [count - other for count, other in zip(counts[0], counts[1])]
    parting = [table for table in basis if parts_by(table.numbers, unlike, grower.prime)]
    _, at = min([(table.inner, at) for at, table in enumerate(parting)])
    line = ("sum", 0, grower.line_with(parting[at], 0))
    return recipe_at(grower, grower.writer.index_of(line))


def parts_by(values, unlike, prime):
    """Whether the sum of the values, each so many times, is not 0."""
    return sum([value * times for value, times in zip(values, unlike)]) % prime != 0


def is_unlike_recipe(one, other, k, depth, value):
    """Whether the value is a recipe of at most this depth with unlike numbers for both webs."""
    check_pair_to(one, other, k, depth)
    webs = (one, other)
    places = places_open(k, value)
    if places is None or places[len(places) - 1] != () or not fits_work(value, webs, k):
        return False
    if depths_of(value)[len(value) - 1] > depth:
        return False
    return numbers_unlike(value, k, webs)


def numbers_unlike(recipe, k, webs):
    """Whether this, which is a recipe for k, has unlike numbers on both webs."""
    needed = lines_alone(recipe)
    places = places_open(k, needed)
    numbers = [last_table(needed, places, web).get((), 0) for web in webs]
    return numbers[0] != numbers[1]
