"""Positions and pairings of the game, and the spoiler's tables that are judged by them."""
from fivealike.colour.fields import cuts_of
from fivealike.plain import are_between, is_integer, is_pair
from fivealike.web.webs import atom_at, is_lot, is_row_of

START = ((), ())


def is_position_of(one, other, k, value):
    """Whether the value is a position of these webs."""
    if not is_pair(value) or not is_row_of(one, value[0]) or not is_row_of(other, value[1]):
        return False
    row, goal = value
    if len(row) != len(goal) or len(row) > k:
        return False
    return atom_at(one, row) == atom_at(other, goal)


def is_pairing_of(one, other, value):
    """Whether the value tells for each point of the one web one of the other, each once."""
    if not are_between(value, 0, len(other) - 1) or len(value) != len(one):
        return False
    return sorted(value) == list(range(len(other)))


def behind_position(position, point, partner):
    """The pair of the rows of the position with a point and its partner behind."""
    return (position[0] + (point,), position[1] + (partner,))


def are_like_behind(one, other, position, point, partner):
    """Whether the rows of the position have one atom with the point and its partner behind, too."""
    if one.colours[point] != other.colours[partner]:
        return False
    near, goals = one.near(point), other.near(partner)
    for here, there in zip(position[0], position[1]):
        if (here == point) != (there == partner) or (here in near) != (there in goals):
            return False
    return True


def positions_from(k, rows):
    """The list of the positions to which like rows lead, by the places that are left out."""
    if len(rows[0]) <= k:
        return [rows]
    return list(zip(cuts_of(rows[0]), cuts_of(rows[1])))


def is_entry(one, other, value):
    """Whether the value is a triple as it stands in a spoiler's table."""
    if not isinstance(value, tuple) or len(value) != 3:
        return False
    moves, left, right = value
    if not is_integer(moves) or moves < 1:
        return False
    return is_lot(one, left) and is_lot(other, right) and len(left) != len(right)


def met_pairs(one, other, left, right):
    """The list of pairs of which each pairing has one, as left and right have unlike many points."""
    if len(left) > len(right):
        outside = [point for point in range(len(other)) if point not in right]
        return [(point, partner) for point in left for partner in outside]
    outside = [point for point in range(len(one)) if point not in left]
    return [(point, partner) for point in outside for partner in right]


def places_lower(k, table, position, rows):
    """The list of the places that lead like rows to a position of the table with fewer moves.

    Where none is left out the place is 0.
    """
    moves = table[position][0]
    led = positions_from(k, rows)
    return [place for place in range(len(led)) if led[place] in table and table[led[place]][0] < moves]


def is_won(one, other, k, table, position):
    """Whether what stands in the table for the position leads on, whatever the keeper does."""
    left, right = table[position][1:]
    for point, partner in met_pairs(one, other, left, right):
        if are_like_behind(one, other, position, point, partner):
            if places_lower(k, table, position, behind_position(position, point, partner)) == []:
                return False
    return True


def is_spoiler_table_of(one, other, k, value):
    """Whether the value is a spoiler's table of these webs."""
    if not isinstance(value, dict) or START not in value:
        return False
    if not all([is_position_of(one, other, k, position) for position in value]):
        return False
    if not all([is_entry(one, other, entry) for entry in list(value.values())]):
        return False
    return all([is_won(one, other, k, value, position) for position in value])


def takes_from(one, other, k, table, position, pairing):
    """The list of the pairs (v, place) with which the keeper loses, or comes to fewer moves."""
    found = []
    for point in range(len(one)):
        if not are_like_behind(one, other, position, point, pairing[point]):
            found.append((point, 0))
        else:
            rows = behind_position(position, point, pairing[point])
            found.extend([(point, place) for place in places_lower(k, table, position, rows)])
    return found
