"""Texts of webs, sentences and recipes, and what is read from them."""
from fivealike.errors import ParseError
from fivealike.plain import is_ascending
from fivealike.say.sentences import bits_of_line, check_sentence
from fivealike.use.words import line_text, lot_in, number_in
from fivealike.web.checks import check_k
from fivealike.web.webs import MOST_POINTS, Web, are_colours, check_web
from fivealike.width.lines import places_of_line
from fivealike.width.recipes import MOST_LINES, places_checked

LOTS = ("all", "some")


def lines_in(text):
    """The list of the lines of a text, None in the place of a last one without its end."""
    if not isinstance(text, str):
        raise ParseError(None)
    lines = list(text.split("\n"))
    last = lines.pop()
    return lines if last == "" else lines + [None]


def line_in(line):
    """The tuple that a line of a sentence or a recipe tells: a word, and numbers or a lot; None if it tells none."""
    if line is None:
        return None
    words = line.split(" ")
    if words[0] in LOTS:
        members = [lot_in(word) for word in words[1:]]
    else:
        members = [number_in(word) for word in words[1:]]
    return None if None in members else tuple([words[0]] + members)


def web_text(web):
    """The text of a web."""
    check_web(web)
    lines = [line_text(("web", web.colours))]
    for point in range(len(web)):
        greater = tuple([there for there in web.near(point) if there > point])
        if greater != ():
            lines.append(line_text((point, greater)))
    return "".join(lines)


def colours_in(line):
    """The colours that the first line of the text of a web tells, None if it tells none."""
    words = [] if line is None else line.split(" ")
    if len(words) != 2 or words[0] != "web":
        return None
    colours = lot_in(words[1])
    return colours if are_colours(colours) and len(colours) <= MOST_POINTS else None


def ties_in(line, least, many):
    """The ties that a later line tells, of a point from the least one on to greater ones; None if it tells none."""
    words = [] if line is None else line.split(" ")
    if len(words) != 2:
        return None
    point, greater = number_in(words[0]), lot_in(words[1])
    if point is None or point < least or greater is None or greater == ():
        return None
    if greater[0] <= point or greater[-1] >= many or not is_ascending(greater):
        return None
    return [(point, there) for there in greater]


def read_web(text):
    """The web with this text."""
    lines = lines_in(text)
    colours = colours_in(lines[0]) if lines != [] else None
    if colours is None:
        raise ParseError(0)
    found = []
    for at in range(1, len(lines)):
        least = found[-1][0] + 1 if found != [] else 0
        ties = ties_in(lines[at], least, len(colours))
        if ties is None:
            raise ParseError(at)
        found.extend(ties)
    return Web(colours, tuple(found))


def sentence_text(k, sentence):
    """The text of a sentence."""
    check_k(k)
    check_sentence(k, sentence)
    return "".join([line_text(line) for line in sentence])


def read_sentence(k, text):
    """The sentence with this text."""
    check_k(k)
    found = []
    free = []
    for at, told in enumerate(lines_in(text)):
        line = line_in(told)
        bits = None if at >= MOST_LINES or line is None else bits_of_line(k, line, free)
        if bits is None:
            raise ParseError(at)
        found.append(line)
        free.append(bits)
    if found == [] or free[-1] != 0:
        raise ParseError(len(found))
    return tuple(found)


def recipe_text(k, recipe):
    """The text of a recipe, which may be open."""
    places_checked(recipe, k)
    return "".join([line_text(line) for line in recipe])


def read_recipe(k, text):
    """The recipe with this text, which may be open."""
    check_k(k)
    found = []
    places = []
    for at, told in enumerate(lines_in(text)):
        line = line_in(told)
        own = None if at >= MOST_LINES or line is None else places_of_line(k, line, places)
        if own is None:
            raise ParseError(at)
        found.append(line)
        places.append(own)
    if found == []:
        raise ParseError(0)
    return tuple(found)
