"""The counting game with k + 1 tokens: its keeper, its spoiler, and a game that is played."""
from fivealike.colour.apart import least_between
from fivealike.colour.fields import cuts_of, fields_of
from fivealike.colour.ladders import dicts_of, is_ladder_of, is_some_ladder_of, is_table_of, ladder_told
from fivealike.colour.names import rounds_to_part
from fivealike.errors import InvalidNumber, InvalidOperation, InvalidTable, Refused
from fivealike.game.moves import START, Board, behind_position, is_pairing_of, positions_from
from fivealike.game.search import spoiler_table_told
from fivealike.plain import is_between, is_integer, is_pair, is_told
from fivealike.web.checks import check_couple, check_depth, check_level, check_rows
from fivealike.web.webs import atom_at, check_point


def check_game_to(one, other, k, depth):
    """Refuses what are no webs, no k and no depth, which can be None, and too many rows."""
    check_level(one, other, k)
    if depth is not None:
        check_depth(depth)
    check_rows((one, other), k)


def is_position_of(one, other, k, value):
    """Whether the value is a position of these webs."""
    return value == START or Board(one, other, k).is_position(value)


def check_position(one, other, k, position):
    """Refuses what is no position."""
    if not is_position_of(one, other, k, position):
        raise InvalidOperation("a position of both webs is asked for")


def check_pairing(one, other, pairing):
    """Refuses what is no pairing."""
    if not is_pairing_of(one, other, pairing):
        raise InvalidOperation("a pairing of the points of both webs is asked for")


def is_position(one, other, k, value):
    """Whether the value is a position."""
    check_level(one, other, k)
    check_rows((one, other), k)
    return is_position_of(one, other, k, value)


def is_pairing(one, other, value):
    """Whether the value is a pairing."""
    check_couple(one, other)
    return is_pairing_of(one, other, value)


def is_right_ladder(one, other, k, ladder, depth):
    """Whether this is a ladder to some depth, or, for the depth None, a table."""
    if depth is None:
        return is_table_of(one, other, k, ladder)
    return is_some_ladder_of(one, other, k, ladder)


def check_held(one, other, k, ladder, depth, position):
    """Refuses what a keeper cannot pair by."""
    check_level(one, other, k)
    if not is_right_ladder(one, other, k, ladder, depth):
        raise InvalidTable("a ladder of both webs is asked for, or a table for the depth None")
    if depth is not None and not is_between(depth, 1, len(ladder) - 1):
        raise InvalidNumber(depth)
    check_position(one, other, k, position)
    check_rows((one, other), k)
    upper = ladder if depth is None else ladder[depth]
    if upper[0][position[0]] != upper[1][position[1]]:
        raise Refused(("names",))


def kinds_in(web, k, numbers, row):
    """The list with what counts of each point behind the row, by a dict of numbers of rows."""
    rows = [row + (point,) for point in range(len(web))]
    if len(row) < k:
        return [numbers[far] for far in rows]
    return [(atom_at(web, far), tuple([numbers[cut] for cut in cuts_of(far)])) for far in rows]


def kinds_held(one, other, k, ladder, depth, position):
    """The pair of what counts of the points of both webs, one round lower."""
    lower = ladder if depth is None else ladder[depth - 1]
    return (kinds_in(one, k, lower[0], position[0]), kinds_in(other, k, lower[1], position[1]))


def pairing_for(one, other, k, ladder, depth, position):
    """A pairing that leaves names equal one round lower, whatever is taken."""
    check_held(one, other, k, ladder, depth, position)
    kinds, goals = kinds_held(one, other, k, ladder, depth, position)
    partners = {}
    for partner in reversed(range(len(other))):
        partners.setdefault(goals[partner], []).append(partner)
    return tuple([partners[kind].pop() for kind in kinds])


def is_pairing_for(one, other, k, ladder, depth, position, value):
    """Whether the value is a pairing that leaves names equal one round lower."""
    check_held(one, other, k, ladder, depth, position)
    if not is_pairing_of(one, other, value):
        return False
    kinds, goals = kinds_held(one, other, k, ladder, depth, position)
    return kinds == [goals[partner] for partner in value]


def game_answer(one, other, k, depth):
    """A ladder or a table by which the keeper holds, or a table by which the spoiler wins."""
    check_game_to(one, other, k, depth)
    fields = fields_of((one, other), k)
    rounds, least = rounds_to_part(fields, depth)
    if least is not None:
        return ("spoiler", spoiler_table_told((one, other), fields, rounds))
    if depth is None:
        return ("keeper", dicts_of(fields, rounds[-1]))
    return ("keeper", ladder_told(fields, rounds, depth))


def is_game_answer(one, other, k, depth, value):
    """Whether the value is a right answer of `game_answer`."""
    check_game_to(one, other, k, depth)
    if is_told(value, "spoiler"):
        if not Board(one, other, k).is_spoiler_table(value[1]):
            return False
        return depth is None or value[1][START][0] <= depth
    if not is_told(value, "keeper"):
        return False
    if depth is None:
        return is_table_of(one, other, k, value[1])
    return is_ladder_of(one, other, k, depth, value[1])


def is_spoiler_table(one, other, k, value):
    """Whether the value is a spoiler's table."""
    check_game_to(one, other, k, None)
    return Board(one, other, k).is_spoiler_table(value)


def least_moves(one, other, k):
    """The least number of moves with which the spoiler wins, None if it never does."""
    check_game_to(one, other, k, None)
    return least_between(one, other, k, None)


def takes_checked(one, other, k, table, position, pairing):
    """All that a spoiler can take; refuses what it cannot take by."""
    check_level(one, other, k)
    board = Board(one, other, k)
    if not board.is_spoiler_table(table):
        raise InvalidTable("a spoiler's table of both webs is asked for")
    check_position(one, other, k, position)
    check_pairing(one, other, pairing)
    check_rows((one, other), k)
    if position not in table:
        raise Refused(("lacks",))
    return board.takes_from(table, position, pairing)


def spoiler_take(one, other, k, table, position, pairing):
    """A point and a place with which the keeper loses, or comes to fewer moves of the table."""
    return takes_checked(one, other, k, table, position, pairing)[0]


def is_spoiler_take(one, other, k, table, position, pairing, value):
    """Whether the value is a right answer of `spoiler_take`."""
    takes = takes_checked(one, other, k, table, position, pairing)
    if not is_pair(value) or not is_integer(value[0]) or not is_integer(value[1]):
        return False
    return value in takes


class Play:
    """A game that is played. It changes."""

    def __init__(self, one, other, k):
        check_level(one, other, k)
        check_rows((one, other), k)
        if len(one) != len(other):
            raise Refused(("points",))
        self.one = one
        self.other = other
        self.k = k
        self.position = START
        self.moves = 0
        self.pairing = None
        self.has_ended = False
        self._board = Board(one, other, k)
        self._steps = []

    def keep_step(self):
        """Keeps how the game stands, to come back to it."""
        self._steps.append((self.position, self.moves, self.pairing, self.has_ended))

    def offer(self, pairing):
        """The keeper tells a pairing."""
        check_pairing(self.one, self.other, pairing)
        if self.has_ended:
            raise Refused(("ended",))
        if self.pairing is not None:
            raise Refused(("offered",))
        self.keep_step()
        self.pairing = pairing

    def take(self, point, place=0):
        """The spoiler takes a point, and leaves out a place if the rows are too long."""
        check_point(self.one, point)
        if not is_between(place, 0, self.k):
            raise InvalidNumber(place)
        if self.has_ended:
            raise Refused(("ended",))
        if self.pairing is None:
            raise Refused(("wanted",))
        self.keep_step()
        partner = self.pairing[point]
        if self._board.are_like_behind(self.position, point, partner):
            led = positions_from(self.k, behind_position(self.position, point, partner))
            self.position = led[place] if len(led) > 1 else led[0]
        else:
            self.has_ended = True
        self.moves += 1
        self.pairing = None
        return self.position

    def undo(self):
        """Takes back the last offer or take."""
        if self._steps == []:
            raise Refused(("undo",))
        self.position, self.moves, self.pairing, self.has_ended = self._steps.pop()

    def twin(self):
        """A game that stands alike, with its undoing, and changes by itself."""
        play = Play(self.one, self.other, self.k)
        play.position = self.position
        play.moves = self.moves
        play.pairing = self.pairing
        play.has_ended = self.has_ended
        play._steps = list(self._steps)
        return play

    def __len__(self):
        return len(range(self.moves))

    def __eq__(self, other):
        if not isinstance(other, Play) or self.one != other.one or self.other != other.other:
            return False
        if self.k != other.k or self.moves != other.moves or self.has_ended != other.has_ended:
            return False
        return self.position == other.position and self.pairing == other.pairing

    def __str__(self):
        ended = ", ended" if self.has_ended else ""
        return f"play with {self.k + 1} tokens, {self.moves} moves{ended}"
