"""The ways down from all states to the one in which a machine is, and their codes."""

from carryladder.bounds import MAX_ROWS
from carryladder.errors import TooMany
from carryladder.halving import halved, orbit_of
from carryladder.latches import Codes
from carryladder.tiles import Tiles


class Descents:
    """The ways down that are come to, by numbers: a tile of all states, a tile of this one, and so on to one state.

    For each class of images it is told which of their tiles were on a way, and how letters turned them.
    """

    def __init__(self, rows, period):
        self.rows = rows
        self.tiles = Tiles(rows, period)
        self.ways = []
        self.numbers = {}
        self.used = {}
        self.turns = {}
        # The rows of the machine whose states are the ways.
        self.table = []
        self._find_ways()

    def _find_ways(self):
        self._number(self._first_way())
        at = 0
        while at < len(self.ways):
            way = self.ways[at]
            bits = [bit for _, bit in self.rows[self._state(way)]]
            self.table.append(tuple([(self._number(self._way_behind(way, x)), bit) for x, bit in enumerate(bits)]))
            at += 1

    def _number(self, way):
        if way not in self.numbers:
            # What asks for more ways than a program may have rows takes too long, and is given up.
            if len(self.ways) == MAX_ROWS:
                raise TooMany(MAX_ROWS)
            self.numbers[way] = len(self.ways)
            self.ways.append(way)
            for own, at in self.choices(way):
                self.used.setdefault(own, {})[at] = True
        return self.numbers[way]

    def choices(self, way):
        """Return pairs (class, place of the tile among the image's) for all images of a way but the last one."""
        tiles = self.tiles
        return [(tiles.classes[image], tiles.tiles[image].index(tile)) for image, tile in zip(way, way[1:])]

    def place(self, way):
        """Return the place, modulo the period, at which the images of a way are."""
        return self.tiles.images[way[0]][0]

    def _state(self, way):
        return self.tiles.images[way[-1]][1].bit_length() - 1

    def _first_way(self):
        tiles = self.tiles
        way = [tiles.tops[0]]
        while tiles.sizes[way[-1]] > 1:
            way.append(tiles.tile_around(way[-1], tiles.numbers[(0, 1)]))
        return tuple(way)

    def _way_behind(self, way, letter):
        """Return the way to which a letter leads a way."""
        tiles = self.tiles
        led = [tiles.following[image][letter] for image in way]
        new = [tiles.tops[(self.place(way) + 1) % tiles.period]]
        # At each step what is led at this place of the old way lies in the last image of the new one.
        at = 0
        while tiles.sizes[new[-1]] > 1:
            image = new[-1]
            while led[at] == image and tiles.classes[way[at]] != tiles.classes[image]:
                at += 1
            if led[at] == image:
                self._note_turn(way[at], image, letter)
                at += 1
                new.append(led[at])
            else:
                new.append(tiles.tile_around(image, led[at]))
        return tuple(new)

    def _note_turn(self, image, other, letter):
        """Note how the tiles are turned by a letter that leads an image onto another one of its class."""
        tiles = self.tiles
        turn = tuple([tiles.tiles[other].index(tiles.following[tile][letter]) for tile in tiles.tiles[image]])
        self.turns.setdefault(tiles.classes[image], {})[turn] = True


def descent_codes(machine, period):
    """Return codes for the ways down of a machine; TooMany(MAX_ROWS) if there are too many.

    No string of a multiple of period letters turns states otherwise than by powers of two.
    """
    many, rows = machine
    descents = Descents(rows, period)
    numbers = {own: _numbered(descents, own) for own in descents.used}
    sizes = _sizes(descents, numbers)
    codes = [_code(descents, way, numbers, sizes) for way in descents.ways]
    # The code of the first way is taken as noughts.
    first = codes[0]
    codes = [tuple([bit ^ start for bit, start in zip(code, first)]) for code in codes]
    return Codes((many, tuple(descents.table)), codes, period, [descents.place(way) for way in descents.ways])


def _numbered(descents, own):
    """Return numbers for the tiles of a class that play a part, by their places among its images' tiles."""
    turns = list(descents.turns.get(own, {}))
    orbits = []
    for at in sorted(descents.used[own]):
        orbit = orbit_of(at, turns)
        if orbit not in orbits:
            orbits.append(orbit)
    order = []
    # Greater orbits come first, so that the numbers of each one differ in low bits of their own alone.
    for _, orbit in sorted([(-len(orbit), orbit) for orbit in orbits]):
        order.extend(halved(orbit, turns))
    return {at: number for number, at in enumerate(order)}


def _sizes(descents, numbers):
    """Return for each height how many bits the numbers of the classes of this height have."""
    sizes = {}
    for own, told in numbers.items():
        height = descents.tiles.heights[own]
        sizes[height] = max(sizes.get(height, 0), (len(told) - 1).bit_length())
    return sizes


def _code(descents, way, numbers, sizes):
    """Return the bits of the numbers on a way, from great heights down, the greatest bits of a number first."""
    # A way has images of a few heights, no two of one; where it has none the number is taken as nought.
    told = {descents.tiles.heights[own]: numbers[own][at] for own, at in descents.choices(way)}
    bits = []
    for height in sorted(sizes, reverse=True):
        bits.extend([told.get(height, 0) >> at & 1 for at in reversed(range(sizes[height]))])
    return tuple(bits)
