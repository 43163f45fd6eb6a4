"""Quick ways to bags and to brambles, which often, but not always, reach the least width."""
from fivealike.web.bits import how_many, points_of


def joined_near(near, point):
    """What is near to each point when this one is taken out, and those near it are tied two by two."""
    around = near[point]
    left = dict(near)
    del left[point]
    for here in points_of(around):
        left[here] = (left[here] | around) & ~(1 << here) & ~(1 << point)
    return left


def missing_ties(near, point):
    """How many ties are missing, each counted twice, between the points near to this one."""
    around = near[point]
    return sum([how_many(around & ~near[here]) - 1 for here in points_of(around)])


def easy_order(tied):
    """A pair of an order that takes out points with few near ones, and of the width of its bags."""
    near = {point: bits for point, bits in enumerate(tied)}
    order = []
    width = -1
    while near != {}:
        few = min([how_many(bits) for bits in list(near.values())])
        fewest = [point for point in near if how_many(near[point]) == few]
        point = min([(missing_ties(near, point), point) for point in fewest])[1]
        width = max(width, few)
        near = joined_near(near, point)
        order.append(point)
    return (tuple(order), width)


def common_number(near, here, there):
    """How many points are near to both."""
    return how_many(near[here] & near[there])


def put_together(near, here, there):
    """What is near to each point when `here` is put to `there`, to which it is tied."""
    around = (near[here] | near[there]) & ~(1 << here) & ~(1 << there)
    left = {point: near[point] & ~(1 << here) & ~(1 << there) for point in near if point != here}
    for point in points_of(around):
        left[point] = left[point] | 1 << there
    left[there] = around
    return left


class Lumps:
    """Points put together in lumps that hang together, until those left are tied two by two."""

    def __init__(self, tied, piece):
        self.near = {point: tied[point] for point in points_of(piece)}
        self.lots = {point: 1 << point for point in self.near}
        # No bags have a lesser width than the fewest near ones of a lump at some time.
        self.least = 0
        self.work()

    def work(self):
        """Puts a lump with few near ones to one with which it has few near ones in common."""
        few, point = min([(how_many(self.near[point]), point) for point in self.near])
        self.least = max(self.least, few)
        while few < len(self.near) - 1:
            around = points_of(self.near[point])
            there = min([(common_number(self.near, point, other), other) for other in around])[1]
            self.near = put_together(self.near, point, there)
            self.lots[there] = self.lots[there] | self.lots[point]
            del self.lots[point]
            few, point = min([(how_many(self.near[point]), point) for point in self.near])
            self.least = max(self.least, few)
