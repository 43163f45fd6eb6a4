"""Positions and pairings of the game, and the spoiler's tables that are judged by them."""
from fivealike.colour.fields import cuts_of
from fivealike.plain import are_between, is_ascending, is_integer, is_pair
from fivealike.web.bits import bits_of, near_bits, points_of

START = ((), ())


def is_pairing_of(one, other, value):
    """Whether the value tells for each point of the one web one of the other, each once."""
    if not are_between(value, 0, len(other) - 1) or len(value) != len(one):
        return False
    return sorted(value) == list(range(len(other)))


def behind_position(position, point, partner):
    """The pair of the rows of the position with a point and its partner behind."""
    return (position[0] + (point,), position[1] + (partner,))


def positions_from(k, rows):
    """The list of the positions to which like rows lead, by the places that are left out."""
    if len(rows[0]) <= k:
        return [rows]
    return list(zip(cuts_of(rows[0]), cuts_of(rows[1])))


class Board:
    """Two webs on which the game is played with k + 1 tokens."""

    def __init__(self, one, other, k):
        self.k = k
        self.near = near_bits(one)
        self.goals = near_bits(other)
        coloured = {}
        for partner, colour in enumerate(other.colours):
            coloured[colour] = coloured.get(colour, 0) | 1 << partner
        # For each point of the one web the bits of those of the other one that have its colour.
        self.images = [coloured.get(colour, 0) for colour in one.colours]

    def partners_of(self, position, point):
        """The bits of the partners with which the rows of the position have one atom behind it with this point."""
        found = self.images[point]
        near = self.near[point]
        for here, there in zip(position[0], position[1]):
            if here == point:
                found = found & 1 << there
            elif near >> here & 1:
                found = found & self.goals[there]
            else:
                found = found & ~self.goals[there] & ~(1 << there)
        return found

    def are_like_behind(self, position, point, partner):
        """Whether the rows of the position have one atom with the point and its partner behind, too."""
        return self.partners_of(position, point) >> partner & 1 == 1

    def is_position(self, value):
        """Whether the value is a position."""
        if not is_pair(value):
            return False
        row, goal = value
        if not are_between(row, 0, len(self.near) - 1) or not are_between(goal, 0, len(self.goals) - 1):
            return False
        if len(row) != len(goal) or len(row) > self.k:
            return False
        for place, point in enumerate(row):
            if not self.partners_of((row[:place], goal[:place]), point) >> goal[place] & 1:
                return False
        return True

    def is_entry(self, value):
        """Whether the value is a triple as it stands in a spoiler's table."""
        if not isinstance(value, tuple) or len(value) != 3:
            return False
        moves, left, right = value
        if not is_integer(moves) or moves < 1:
            return False
        if not are_between(left, 0, len(self.near) - 1) or not are_between(right, 0, len(self.goals) - 1):
            return False
        return len(left) != len(right) and is_ascending(left) and is_ascending(right)

    def places_lower(self, table, position, rows):
        """The list of the places that lead like rows to a position of the table with fewer moves.

        Where none is left out the place is 0.
        """
        moves = table[position][0]
        led = positions_from(self.k, rows)
        return [place for place in range(len(led)) if led[place] in table and table[led[place]][0] < moves]

    def is_won(self, table, position):
        """Whether what stands in the table for the position leads on, whatever the keeper does."""
        _, left, right = table[position]
        if len(left) > len(right):
            points, partners = left, ~bits_of(right)
        else:
            points, partners = [point for point in range(len(self.near)) if point not in left], bits_of(right)
        for point in points:
            # Each pairing has some of these pairs; those that are not like end the game.
            like = self.partners_of(position, point) & partners
            if like and table[position][0] == 1:
                return False
            for partner in points_of(like):
                if self.places_lower(table, position, behind_position(position, point, partner)) == []:
                    return False
        return True

    def is_spoiler_table(self, value):
        """Whether the value is a spoiler's table."""
        if not isinstance(value, dict) or START not in value:
            return False
        if not all([self.is_position(position) for position in value]):
            return False
        if not all([self.is_entry(entry) for entry in list(value.values())]):
            return False
        return all([self.is_won(value, position) for position in value])

    def takes_from(self, table, position, pairing):
        """The list of the pairs (v, place) with which the keeper loses, or comes to fewer moves."""
        found = []
        for point in range(len(self.near)):
            if not self.are_like_behind(position, point, pairing[point]):
                found.append((point, 0))
            else:
                rows = behind_position(position, point, pairing[point])
                found.extend([(point, place) for place in self.places_lower(table, position, rows)])
        return found
