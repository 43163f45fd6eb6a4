"""Papers that a spoiler wins: tables of positions."""
from fivealike.judge.graphs import are_rows_like, bits_of, images_like, points_of
from fivealike.judge.plain import are_between, is_integer, is_lot, is_tuple_of, without_place

START = ((), ())


def is_position(one, other, k, value):
    """Whether the value is a pair of like rows of at most k points of both graphs."""
    if not is_tuple_of(value, 2):
        return False
    row, goal = value
    if not are_between(row, 0, one.many - 1) or not are_between(goal, 0, other.many - 1):
        return False
    return len(row) <= k and are_rows_like(one, row, other, goal)


def is_entry(one, other, value):
    """Whether the value is a triple of moves and of two lots of unlike many points."""
    if not is_tuple_of(value, 3):
        return False
    moves, left, right = value
    if not is_integer(moves) or moves < 1:
        return False
    return is_lot(left, one.many) and is_lot(right, other.many) and len(left) != len(right)


def leads_lower(table, k, position, point, image):
    """Whether a move leads on to a position of the table with fewer moves, with some place left out where one is."""
    row, goal = position[0] + (point,), position[1] + (image,)
    led = [(row, goal)]
    if len(row) > k:
        led = [(without_place(row, place), without_place(goal, place)) for place in range(k + 1)]
    return any([to in table and table[to][0] < table[position][0] for to in led])


def is_won(one, other, k, table, position):
    """Whether each of the pairs of which a pairing has one ends the game, or leads to fewer moves."""
    row, goal = position
    _, left, right = table[position]
    if len(left) > len(right):
        points, images = left, ~bits_of(right)
    else:
        points, images = [point for point in range(one.many) if point not in left], bits_of(right)
    for point in points:
        for image in points_of(images_like(one, row, point, other, goal) & images):
            if not leads_lower(table, k, position, point, image):
                return False
    return True


def is_spoiler_table(one, other, k, value):
    """Whether the value is a spoiler's table."""
    if not isinstance(value, dict) or START not in value:
        return False
    if not all([is_position(one, other, k, position) for position in value]):
        return False
    if not all([is_entry(one, other, entry) for entry in list(value.values())]):
        return False
    return all([is_won(one, other, k, value, position) for position in value])


def wins_within(one, other, k, most, value):
    """Whether the value is a spoiler's table for at most so many moves, for however many if there is no bound."""
    return is_spoiler_table(one, other, k, value) and (most is None or value[START][0] <= most)
