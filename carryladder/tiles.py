"""Images of a machine's states, their classes and their tiles.

A lot of states is told by the integer that has the bits of these states. An image is a lot at a place; places are
counted modulo a period.
"""

from carryladder.bounds import MAX_ROWS
from carryladder.classes import classes_of
from carryladder.errors import TooMany


class Tiles:
    """The images of a machine, by numbers: those to which strings lead the images of all states, and single states.

    The image of all states at a place is that of the states to which strings lead from the state 0 there.
    """

    def __init__(self, rows, period):
        self.rows = rows
        self.period = period
        self.images = []
        self.numbers = {}
        self.by_place = [[] for _ in range(period)]
        # For each place the image of all states; for each image those that come by one letter.
        self.tops = []
        self.following = []
        self._find_images()
        self.sizes = [len(states_of(lot)) for _, lot in self.images]
        self.classes = classes_of(self.following)
        self.members = [[] for _ in range(max(self.classes) + 1)]
        for image, own in enumerate(self.classes):
            self.members[own].append(image)
        self.tiles = [()] * len(self.images)
        self.heights = [0] * len(self.members)
        self._find_tiles()

    def _find_images(self):
        states = states_by_place(self.rows, self.period)
        self.tops = [self._number(place, lot) for place, lot in enumerate(states)]
        for place, lot in enumerate(states):
            for state in states_of(lot):
                self._number(place, 1 << state)
        at = 0
        while at < len(self.images):
            place, lot = self.images[at]
            coming = (place + 1) % self.period
            self.following.append([self._number(coming, led) for led in self._lots_behind(lot)])
            at += 1

    def _number(self, place, lot):
        key = (place, lot)
        if key not in self.numbers:
            # What asks for more images than a program may have rows takes too long, and is given up.
            if len(self.images) == MAX_ROWS:
                raise TooMany(MAX_ROWS)
            self.numbers[key] = len(self.images)
            self.by_place[place].append(len(self.images))
            self.images.append(key)
        return self.numbers[key]

    def _lots_behind(self, lot):
        """Return for each letter the lot to which it leads a lot."""
        lots = [0] * len(self.rows[0])
        for state in states_of(lot):
            for letter, (after, _) in enumerate(self.rows[state]):
                lots[letter] |= 1 << after
        return lots

    def _find_tiles(self):
        # Lesser images come ahead of greater ones, and of classes of one size those to which others lead.
        order = sorted([(self.sizes[members[0]], -own) for own, members in enumerate(self.members)])
        for size, turned in order:
            if size > 1:
                self._find_tiles_of(-turned)

    def _find_tiles_of(self, own):
        """Find the tiles of the images of a class, and its height, which is beyond that of all that come of them."""
        first = self.members[own][0]
        self.tiles[first] = self._greatest_within(first)
        line = [first]
        below = list(self.tiles[first])
        at = 0
        while at < len(line):
            image = line[at]
            for letter, other in enumerate(self.following[image]):
                if self.classes[other] != own:
                    below.append(other)
                elif not self.tiles[other]:
                    # The tiles of each image stand in the order of those that are led to them.
                    self.tiles[other] = tuple([self.following[tile][letter] for tile in self.tiles[image]])
                    line.append(other)
            at += 1
        self.heights[own] = 1 + max([self.heights[self.classes[image]] for image in below])

    def _greatest_within(self, image):
        """Return the greatest images at the same place that lie within an image and are less."""
        place, _ = self.images[image]
        within = [(-self.sizes[other], other) for other in self.by_place[place] if self.is_within(other, image)]
        found = []
        # The image itself stands first, as no other one is as great.
        for _, other in sorted(within)[1:]:
            if not any([self.is_within(other, greater) for greater in found]):
                found.append(other)
        return tuple(sorted(found))

    def is_within(self, image, other):
        """Tell whether the states of an image are all in another one."""
        return self.images[image][1] & ~self.images[other][1] == 0

    def tile_around(self, image, part):
        """Return the first tile of an image in which another image, a part of it, lies."""
        return [tile for tile in self.tiles[image] if self.is_within(part, tile)][0]


def states_by_place(rows, period):
    """Return for each place modulo period the lot of the states to which strings lead from the state 0 there."""
    lots = [1] + [0] * (period - 1)
    line = [(0, 0)]
    at = 0
    while at < len(line):
        place, state = line[at]
        coming = (place + 1) % period
        for after, _ in rows[state]:
            if not lots[coming] >> after & 1:
                lots[coming] |= 1 << after
                line.append((coming, after))
        at += 1
    return lots


def states_of(lot):
    """Return the ascending list of the states of a lot."""
    return [state for state in range(lot.bit_length()) if lot >> state & 1]
