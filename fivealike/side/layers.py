"""The layers of parts: how long each one can be led on, whatever points are asked for."""
from fivealike.program.partials import points_in, without_pair
from fivealike.web.bits import bits_of, near_bits, points_of
from fivealike.web.maps import images_of


class Layers:
    """All parts of at most k pairs, and the first layer in which each of them is not."""

    def __init__(self, one, other, k):
        self.k = k
        self.points = list(range(len(one)))
        self.images = [bits_of(images_of(one, other, point)) for point in range(len(one))]
        self.tied = near_bits(one)
        self.near = near_bits(other)
        # For each part of fewer than k pairs and each point the bits of its images in parts that are left.
        self.leads = {}
        # Those without a number are in all layers.
        self.ranks = {}
        self.left = self.all_parts()
        self.known = {part: True for part in self.left}
        self.work()

    def fitting(self, part, point):
        """The bits of the images with which the part has a pair more for the point, which it lacks."""
        bits = self.images[point]
        for here, there in part:
            if self.tied[point] >> here & 1:
                bits = bits & self.near[there]
        return bits

    def all_parts(self):
        """The list of all parts of at most k pairs; notes the images of those of fewer pairs."""
        found = [()]
        longest = [()]
        for _ in range(self.k):
            longer = []
            for part in longest:
                self.leads[part] = [self.fitting(part, point) for point in self.points]
                last = part[-1][0] if part != () else -1
                for point in self.points[last + 1:]:
                    longer.extend([part + ((point, image),) for image in points_of(self.leads[part][point])])
            longest = longer
            found.extend(longer)
        return found

    def images_left(self, part, point):
        """The bits of the images with which the part, with a pair more, has just parts that are left."""
        if len(part) < self.k:
            return self.leads[part][point]
        bits = self.fitting(part, point)
        for at in range(len(part)):
            bits = bits & self.leads[without_pair(part, at)][point]
        return bits

    def is_led_on(self, part):
        """Whether the part is in the next layer, too."""
        own = points_in(part)
        return all([self.images_left(part, point) for point in self.points if point not in own])

    def work(self):
        """Finds for all parts that are not in all layers the first one in which they are not."""
        depth = 0
        gone = [part for part in self.left if not self.is_led_on(part)]
        while gone != []:
            depth += 1
            for part in gone:
                self.ranks[part] = depth
                self.take_out(part)
            self.left = [part for part in self.left if part not in self.ranks]
            gone = [part for part in self.left if not self.is_led_on(part)]

    def take_out(self, part):
        """Notes that the part is not left."""
        for at, (point, image) in enumerate(part):
            images = self.leads[without_pair(part, at)]
            images[point] = images[point] & ~(1 << image)

    def rank_of(self, part):
        """The first layer in which this, of at most k pairs, is not: 0 for what is no part, None for all layers."""
        if part not in self.known:
            return 0
        return self.ranks.get(part)

    def family(self):
        """The greatest family; there is one."""
        found = list(self.left)
        for part in self.left:
            if len(part) == self.k:
                for point in self.points[part[-1][0] + 1:]:
                    found.extend([part + ((point, image),) for image in points_of(self.images_left(part, point))])
        return tuple(sorted(found))
