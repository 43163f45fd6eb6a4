"""Partings of patterns, their quotients and weights, and what one to one maps are sums of."""
from math import factorial

from fivealike.web.webs import Web


def fits_lot(pattern, lot, point):
    """Whether a point can be put into a lot with others: tied to none, and of no other colour from 0 on."""
    near = pattern.near(point)
    own = pattern.colours[point]
    for there in lot:
        colour = pattern.colours[there]
        if there in near or own != colour and own >= 0 and colour >= 0:
            return False
    return True


def fit_partings(pattern):
    """The ascending list of the fit partings."""
    begun = [()]
    for point in range(len(pattern)):
        longer = []
        for lots in begun:
            longer.append(lots + ((point,),))
            for at, lot in enumerate(lots):
                if fits_lot(pattern, lot, point):
                    longer.append(lots[:at] + (lot + (point,),) + lots[at + 1:])
        begun = longer
    return sorted(begun)


def is_fit(pattern, lots):
    """Whether this, which is a parting, is fit."""
    return all([fits_lot(pattern, lot[:at], lot[at]) for lot in lots for at in range(len(lot))])


def lot_colour(pattern, lot):
    """The colour from 0 on that some point of the lot of a fit parting has, else -1."""
    return max([pattern.colours[point] for point in lot])


def quotient_of(pattern, lots):
    """The quotient by a fit parting."""
    place = {point: at for at, lot in enumerate(lots) for point in lot}
    ties = {}
    for here, there in pattern.ties:
        ties[min(place[here], place[there]), max(place[here], place[there])] = True
    return Web(tuple([lot_colour(pattern, lot) for lot in lots]), tuple(sorted(ties)))


def weight_of(lots):
    """The weight of a parting."""
    weight = 1
    for lot in lots:
        weight = weight * factorial(len(lot) - 1)
        if len(lot) & 1 == 0:
            weight = -weight
    return weight


def sum_told(numbers):
    """The tuple of the pairs of webs and integers other than 0, told a dict from colours and ties to integers."""
    return tuple([(Web(key[0], key[1]), numbers[key]) for key in sorted(numbers) if numbers[key] != 0])


def one_to_one_numbers(pattern):
    """A dict from colours and ties of quotients to integers, whose sum tells the one to one maps."""
    found = {}
    for lots in fit_partings(pattern):
        web = quotient_of(pattern, lots)
        key = (web.colours, web.ties)
        found[key] = found.get(key, 0) + weight_of(lots)
    return found


def tied_number(pattern, lot, other):
    """How many pairs of a point of the one lot and of one of the other are tied."""
    return len([point for point in lot for there in pattern.near(point) if there in other])


def loose_pairs(pattern, lots):
    """The ascending list of the pairs of indices of lots without ties; None if some lots are tied just in part."""
    found = []
    for high in range(len(lots)):
        for low in range(high):
            tied = tied_number(pattern, lots[low], lots[high])
            if tied == 0:
                found.append((low, high))
            elif tied < len(lots[low]) * len(lots[high]):
                return None
    return sorted(found)


def told_numbers(pattern):
    """A dict from colours and ties to integers, whose sum tells the one to one maps that keep what is untied.

    Over all sets of ties more, by which a quotient gets the same ties, the signs add up: where lots are
    tied in part, to 0; where they get tied, however many ties more do this, to -1.
    """
    found = {}
    for lots in fit_partings(pattern):
        loose = loose_pairs(pattern, lots)
        if loose is not None:
            web = quotient_of(pattern, lots)
            signed = [(web.ties, weight_of(lots))]
            for pair in loose:
                signed = signed + [(ties + (pair,), -number) for ties, number in signed]
            for ties, number in signed:
                key = (web.colours, tuple(sorted(ties)))
                found[key] = found.get(key, 0) + number
    return found
