"""The search for a pattern with unlike numbers of maps into two webs that are not the same.

One to one maps of the one web onto itself, and onto the other one, that keep all colours are sums of
numbers of maps: of quotients of the one, some of whose points of colour -1 have other colours, and of
the pieces of these. So some of these pieces has unlike numbers.
"""
from fivealike.same.quotients import fit_partings, quotient_of
from fivealike.web.maps import map_number
from fivealike.web.webs import Web, part, pieces

ANY_COLOUR = -1


def simple_patterns(one, other):
    """A lone point, a lone tie, and a lone point of each colour from 0 on of the points of both webs."""
    colours = sorted(set([colour for colour in one.colours + other.colours if colour >= 0]))
    points = [Web((colour,), ()) for colour in [ANY_COLOUR] + colours]
    return points + [Web((ANY_COLOUR, ANY_COLOUR), ((0, 1),))]


def recolourings(colours):
    """All ways to give points of colour -1 another one of these colours, those with few others first."""
    others = sorted(set([colour for colour in colours if colour >= 0]))
    begun = [(0, ())]
    for own in colours:
        choices = [(0, own)] if own >= 0 else [(0, own)] + [(1, other) for other in others]
        begun = [(many + more, ahead + (colour,)) for many, ahead in begun for more, colour in choices]
    return [told for _, told in sorted(begun)]


def pieces_of_quotients(pattern):
    """The list of all pieces of quotients, as pairs of colours and ties, those of few points first."""
    found = {}
    for lots in fit_partings(pattern):
        web = quotient_of(pattern, lots)
        for points in pieces(web):
            piece = part(web, points)
            found[len(points), piece.colours, piece.ties] = True
    return [(colours, ties) for _, colours, ties in sorted(found)]


def has_unlike_numbers(pattern, one, other):
    """Whether the pattern has unlike numbers of maps into both webs."""
    return map_number(pattern, one) != map_number(pattern, other)


def parting_pattern(one, other):
    """A pattern with unlike numbers of maps into these webs, which are not the same."""
    for pattern in simple_patterns(one, other):
        if has_unlike_numbers(pattern, one, other):
            return pattern
    tried = {}
    for colours in recolourings(one.colours):
        for told in pieces_of_quotients(Web(colours, one.ties)):
            if told not in tried:
                tried[told] = True
                pattern = Web(told[0], told[1])
                if has_unlike_numbers(pattern, one, other):
                    return pattern
    return None
