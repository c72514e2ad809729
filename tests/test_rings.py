"""rings."""

import itertools
import unittest

from carryladder.rings import rings
from carryladder.turnings import turning
from tests.helpers import cycles, outcome, random_machine, seeded


def told_rings(moves):
    """rings, by which states come back to themselves."""
    found = []
    for state in range(len(moves)):
        ring = [state]
        while len(ring) <= len(moves) and moves[ring[-1]] != state:
            ring.append(moves[ring[-1]])
        if len(ring) <= len(moves):
            found.append(tuple(ring[ring.index(min(ring)):] + ring[:ring.index(min(ring))]))
    return tuple(sorted(set(found)))


class RingsTest(unittest.TestCase):
    def check(self, moves):
        self.assertEqual(outcome(rings, moves), repr(told_rings(moves)), moves)

    def test_all_small_turnings(self):
        for size in range(1, 6):
            for moves in itertools.product(range(size), repeat=size):
                self.check(moves)

    def test_random_turnings(self):
        rng = seeded(291)
        for size in range(1, 25):
            for _ in range(20):
                self.check(tuple([rng.randrange(size) for _ in range(size)]))
                moves = list(range(size))
                rng.shuffle(moves)
                self.check(tuple(moves))

    def test_each_state_alone(self):
        for size in (1, 2, 24):
            self.assertEqual(rings(tuple(range(size))), tuple([(q,) for q in range(size)]))

    def test_one_ring_of_all(self):
        for size in range(1, 25):
            self.assertEqual(rings(tuple(cycles(size))), (tuple(range(size)),))
            back = tuple([(q - 1) % size for q in range(size)])
            self.assertEqual(rings(back), ((0,) + tuple(reversed(range(1, size))),))

    def test_long_ways_into_rings(self):
        down = tuple([max(q - 1, 0) for q in range(24)])
        self.assertEqual(rings(down), ((0,),))
        self.assertEqual(rings(tuple([min(q + 1, 23) for q in range(24)])), ((23,),))
        for back in range(24):
            moves = tuple([q + 1 for q in range(23)]) + (back,)
            self.assertEqual(rings(moves), (tuple(range(back, 24)),))

    def test_told_from_the_least_state_and_ascending(self):
        self.assertEqual(rings((5, 4, 3, 2, 1, 0)), ((0, 5), (1, 4), (2, 3)))
        self.assertEqual(rings((1, 1, 5, 0, 2, 4)), ((1,), (2, 5, 4)))
        self.assertEqual(rings((2, 0, 1, 3)), ((0, 2, 1), (3,)))

    def test_a_turning_again_and_again(self):
        rng = seeded(292)
        for _ in range(60):
            machine = random_machine(rng, 1, rng.randint(1, 12))
            own = {state for ring in rings(turning(machine, (0,))) for state in ring}
            for times in (2, 3, 6, 24):
                found = {state for ring in rings(turning(machine, (0,) * times)) for state in ring}
                self.assertEqual(found, own)


if __name__ == "__main__":
    unittest.main()
