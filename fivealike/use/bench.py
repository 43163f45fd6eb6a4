"""A bench that holds webs by names, and is told lines."""
from fivealike.colour.alike import check_pair
from fivealike.colour.apart import least_between
from fivealike.errors import InvalidOperation, ParseError, TooMany, UnknownName
from fivealike.plain import is_between
from fivealike.same.finding import found_map
from fivealike.same.search import check_two
from fivealike.use.words import NO_LOT, lot_in, number_in
from fivealike.web.checks import GREATEST_DEPTH, GREATEST_K
from fivealike.web.maps import map_number
from fivealike.web.webs import GREATEST_COLOUR, LEAST_COLOUR, MOST_POINTS, Web, are_colours
from fivealike.width.bags import least_width

MOST_HELD = 12
MOST_LETTERS = 8
LETTERS = "abcdefghijklmnopqrstuvwxyz"
# For each first word of a line what the words behind it are.
KINDS = {"web": ("name", "colours"), "tie": ("name", "point", "point"), "colour": ("name", "point", "colour"),
         "alike": ("k", "depth", "name", "name"), "same": ("name", "name"), "maps": ("name", "name"),
         "width": ("name",), "undo": ()}


def is_name(word):
    """Whether the word is a name that a web can have."""
    return 1 <= len(word) <= MOST_LETTERS and all([letter in LETTERS for letter in word])


def told_between(word, low, high):
    """The tuple of the number that the word tells, () if it tells none from the low one to the high one."""
    number = number_in(word)
    return (number,) if is_between(number, low, high) else ()


def told_by(kind, word):
    """The tuple of what a word of this kind tells, () if it has no meaning."""
    if kind == "name":
        return (word,) if is_name(word) else ()
    if kind == "colours":
        colours = lot_in(word)
        return (colours,) if are_colours(colours) and len(colours) <= MOST_POINTS else ()
    if kind == "point":
        return told_between(word, 0, MOST_POINTS - 1)
    if kind == "colour":
        return told_between(word, LEAST_COLOUR, GREATEST_COLOUR)
    if kind == "k":
        return told_between(word, 1, GREATEST_K)
    return (None,) if word == NO_LOT else told_between(word, 0, GREATEST_DEPTH)


def parsed(line):
    """The list of what the words of a line tell: its first word, and what those behind it are."""
    if not isinstance(line, str):
        raise ParseError(None)
    words = line.split(" ")
    if words[0] not in KINDS:
        raise ParseError(0)
    kinds = KINDS[words[0]]
    found = [words[0]]
    for at, kind in enumerate(kinds):
        told = told_by(kind, words[at + 1]) if at + 1 < len(words) else ()
        if told == ():
            raise ParseError(at + 1)
        found.append(told[0])
    if len(words) > len(found):
        raise ParseError(len(found))
    return found


def with_tie_turned(web, here, there):
    """The web with a tie put in, or taken out if it is there."""
    tie = (min(here, there), max(here, there))
    ties = [other for other in web.ties if other != tie]
    return Web(web.colours, tuple(ties if len(ties) < len(web.ties) else sorted(ties + [tie])))


def check_points(web, points):
    """Refuses points that the web lacks."""
    for point in points:
        if point >= len(web):
            raise InvalidOperation("the web has no such point")


def changed_web(web, told):
    """The web as a line that changes it leaves it."""
    word, _, point, behind = told
    if word == "colour":
        check_points(web, (point,))
        if web.colours[point] == behind:
            raise InvalidOperation("the point has this colour")
        return Web(web.colours[:point] + (behind,) + web.colours[point + 1:], web.ties)
    check_points(web, (point, behind))
    if point == behind:
        raise InvalidOperation("a tie has two points")
    return with_tie_turned(web, point, behind)


def alike_reply(one, other, k, depth):
    """Whether two webs are alike to the depth, or for ever."""
    check_pair(one, other, k)
    least = least_between(one, other, k, depth)
    return "alike" if least is None else f"apart at {least}"


def same_reply(one, other):
    """Whether two webs are the same."""
    check_two(one, other)
    return "not the same" if found_map(one, (), other, ()) is None else "same"


def reply_of(told, webs):
    """The reply to a line that changes nothing, told the webs that it names."""
    if told[0] == "alike":
        return alike_reply(webs[0], webs[1], told[1], told[2])
    if told[0] == "same":
        return same_reply(webs[0], webs[1])
    if told[0] == "maps":
        return f"{map_number(webs[0], webs[1])} maps"
    return f"width {least_width(webs[0])}"


class Bench:
    """Webs by names, and the lines that made them. It changes."""

    def __init__(self):
        self.lines = ()
        self.names = ()
        self._webs = {}
        # For each change that is not taken back the name of the web, and the web ahead of it or None.
        self._changes = []

    def tell(self, line):
        """Does a line, and returns its reply."""
        told = parsed(line)
        reply = self.done(told)
        self.lines = self.lines + (line,)
        return reply

    def web(self, name):
        """The web of this name."""
        if not isinstance(name, str) or name not in self._webs:
            raise UnknownName(name)
        return self._webs[name]

    def done(self, told):
        """Does what is told by a line; its reply."""
        word = told[0]
        if word == "undo":
            return self.undo_last()
        if word == "web":
            return self.change(told[1], self.fresh_web(told[1], told[2]))
        if word in ("tie", "colour"):
            return self.change(told[1], changed_web(self.web(told[1]), told))
        names = [member for member, kind in zip(told[1:], KINDS[word]) if kind == "name"]
        return reply_of(told, [self.web(name) for name in names])

    def fresh_web(self, name, colours):
        """A web of these colours, if one more of this name can be held."""
        if name in self._webs:
            raise InvalidOperation("there is a web of this name")
        if len(self._webs) == MOST_HELD:
            raise TooMany(MOST_HELD)
        return Web(colours, ())

    def change(self, name, web):
        """Holds the web by the name; the reply."""
        self._changes.append((name, self._webs.get(name)))
        self.hold(name, web)
        return f"{name}: {len(web)} points, {len(web.ties)} ties"

    def hold(self, name, web):
        """Holds the web by the name, or none if it is None."""
        if web is None:
            del self._webs[name]
        else:
            self._webs[name] = web
        self.names = tuple(sorted(self._webs))

    def undo_last(self):
        """Takes back the last change of those not taken back; the reply."""
        if self._changes == []:
            raise InvalidOperation("there is nothing to be taken back")
        name, web = self._changes.pop()
        self.hold(name, web)
        return "undone"

    def __len__(self):
        return len(self.names)

    def __str__(self):
        return f"bench of {len(self.names)} webs, {len(self.lines)} lines"
