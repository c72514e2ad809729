"""places, machine_of."""

import itertools
import math
import time
import unittest

from carryladder.carrying import machine_of, places
from carryladder.errors import TooMany
from carryladder.leastmachines import least
from carryladder.machines import machine_error, written
from carryladder.programs import composed
from carryladder.running import result
from carryladder.tricks import carried, greater, lowest_one, run_cleared, times, without_lowest
from tests.helpers import (LOW, MIXED, ONE, THREE, TWO, bits_written, letters, outcome, raises, random_program,
                           random_words, seeded, standings)

KEEPING = ("twice", "minus", "plus", "less", "prefix")
MANY_PLACES = raises(TooMany, limit=2000)
MANY_STATES = raises(TooMany, limit=24)


def masks(*sizes):
    """A program of masks alone, of so many bits each."""
    return (0, tuple([("mask", (0,) * (size - 1) + (1,)) for size in sizes]))


def chain(many, length, last=()):
    """Ones doubled so many times: at each place one more of the rows has a one."""
    rows = [("ones",)] + [("twice", many + k) for k in range(length)]
    return (many, tuple(rows) + tuple(last))


def told_machine(program):
    """The standings with numbers as a machine, of any number of states."""
    found = standings(program)
    numbers = {standing: number for number, standing in enumerate(found)}
    rows = [tuple([(numbers[behind], bit) for behind, bit in steps]) for steps in found.values()]
    return (program[0], tuple(rows))


def split(rows):
    """For each state the number of its class, by taking apart what some letter tells apart."""
    classes = [0] * len(rows)
    for _ in rows:
        told = [(own, tuple([(classes[state], bit) for state, bit in row])) for own, row in zip(classes, rows)]
        order = sorted(set(told))
        classes = [order.index(own) for own in told]
    return classes


def told_least(program):
    """The least machine of a program, made of its standings letter by letter."""
    many, rows = told_machine(program)
    classes = split(rows)
    order = [classes[0]]
    first = {own: classes.index(own) for own in classes}
    for own in order:
        for state, _ in rows[first[own]]:
            if classes[state] not in order:
                order.append(classes[state])
    made = [tuple([(order.index(classes[state]), bit) for state, bit in rows[first[own]]]) for own in order]
    return (many, tuple(made))


class PlacesTest(unittest.TestCase):
    def test_random_programs(self):
        rng = seeded(221)
        counts = set()
        for many in (0, 1, 2):
            for length in range(1, 9):
                for _ in range(25):
                    program = random_program(rng, many, length)
                    found = standings(program, 2000)
                    told = MANY_PLACES if found is None else repr(len(found))
                    self.assertEqual(outcome(places, program), told, program)
                    counts.add(told)
        self.assertGreater(len(counts), 30)

    def test_random_programs_of_more_rows(self):
        rng = seeded(228)
        told = []
        for many in (0, 1, 2):
            for length in (10, 15, 20):
                for _ in range(4):
                    program = random_program(rng, many, length)
                    found = standings(program, 2000)
                    told.append(MANY_PLACES if found is None else repr(len(found)))
                    self.assertEqual(outcome(places, program), told[-1], program)
        self.assertIn(MANY_PLACES, told)
        self.assertGreater(len(set(told)), 5)

    def test_programs_of_rows_that_keep(self):
        rng = seeded(222)
        for many in (0, 1, 2):
            for length in range(1, 8):
                for _ in range(15):
                    program = random_program(rng, many, length, KEEPING + ONE if many == 0 else KEEPING)
                    self.assertEqual(places(program), len(standings(program)), program)

    def test_each_instruction(self):
        for word in ONE + TWO + THREE:
            row = (word,) + (0, 1)[:0 if word in ONE else 1 if word in TWO else 2]
            self.assertEqual(places((2, (row,))), 2 if word in KEEPING else 1, word)
        for size in range(1, 25):
            self.assertEqual(places((1, (("mask", (0,) * size),))), size)

    def test_plain_programs_have_one_place(self):
        rng = seeded(223)
        for many in (0, 1, 2):
            for length in (1, 5, 60):
                program = random_program(rng, many, length, ONE + ("not", "and", "or", "xor"))
                self.assertEqual(places(program), 1)

    def test_rows_that_the_last_one_does_not_use(self):
        self.assertEqual(places((1, (("minus", 0), ("ones",)))), 2)
        self.assertEqual(places((1, (("prefix", 0), ("twice", 0), ("zero",)))), 4)
        self.assertEqual(places((0, (("mask", (1, 1, 1)), ("zero",)))), 3)
        # Two rows that are alike have the same states.
        self.assertEqual(places((1, (("minus", 0), ("minus", 0)))), 2)

    def test_masks_alone(self):
        sizes = range(1, 25)
        for chosen in itertools.chain(itertools.combinations(sizes, 1), itertools.combinations(sizes, 2)):
            self.assertEqual(places(masks(*chosen)), math.lcm(*chosen), chosen)
        rng = seeded(224)
        for _ in range(150):
            chosen = [rng.choice(sizes) for _ in range(rng.randint(3, 5))]
            whole = math.lcm(*chosen)
            self.assertEqual(outcome(places, masks(*chosen)), repr(whole) if whole <= 2000 else MANY_PLACES, chosen)

    def test_masks_near_the_bound(self):
        self.assertEqual(places(masks(4, 5, 9, 11)), 1980)
        self.assertEqual(outcome(places, masks(7, 9, 32 - 16, 2)), repr(1008))
        self.assertEqual(outcome(places, masks(7, 17, 17, 17)), repr(119))
        self.assertEqual(outcome(places, masks(8, 11, 23)), MANY_PLACES)
        self.assertEqual(outcome(places, masks(*range(1, 25))), MANY_PLACES)

    def test_1999_and_2000_and_2001(self):
        for many, count in ((0, 2001), (1, 1999), (1, 2000), (1, 2001), (2, 2000)):
            told = repr(count) if count <= 2000 else MANY_PLACES
            self.assertEqual(outcome(places, chain(many, count - 1)), told)

    def test_2000_and_2001_with_masks(self):
        # Behind 20 places all of the chain is ones, and then the masks go round alone.
        for many, length in itertools.product((0, 1, 2), range(18, 24)):
            told = repr(1980 + length) if length <= 20 else MANY_PLACES
            self.assertEqual(outcome(places, chain(many, length, masks(4, 5, 9, 11)[1])), told)

    def test_many_standings_side_by_side(self):
        for many, length in ((1, 10), (2, 5)):
            rows = [("twice", k) for k in range(many * length)]
            self.assertEqual(places((many, tuple(rows))), 1024)
            self.assertEqual(outcome(places, (many, tuple(rows + [("prefix", 0)]))), MANY_PLACES)

    def test_6000_rows_and_2000_standings(self):
        rng = seeded(225)
        for many, words in ((0, THREE), (1, ("not", "and", "or", "xor", "minus"))):
            rows = list(chain(many, 1998)[1])
            while len(rows) < 6000:
                word = rng.choice(words)
                rows.append((word,) + tuple([rng.randrange(many + len(rows)) for _ in range(1 if word in TWO else 2)]))
            start = time.perf_counter()
            told = outcome(places, (many, tuple(rows)))
            self.assertLess(time.perf_counter() - start, 60)
            self.assertIn(told, ("1999", "2000", MANY_PLACES))

    def test_6000_rows_and_a_thousand_standings_side_by_side(self):
        rng = seeded(226)
        for word in ("twice", "minus", "prefix"):
            rows = [("twice", k) for k in range(10)] + [("twice", rng.randrange(10)) for _ in range(5990)]
            start = time.perf_counter()
            self.assertEqual(places((1, tuple(rows))), 1024, word)
            self.assertLess(time.perf_counter() - start, 60)

    def test_at_most_as_told(self):
        rng = seeded(227)
        for _ in range(100):
            program = random_program(rng, 1, rng.randint(1, 6))
            keeping = len([row for row in program[1] if row[0] in KEEPING])
            around = math.lcm(*[len(row[1]) for row in program[1] if row[0] == "mask"])
            if 2 ** keeping * around <= 2000:
                self.assertLessEqual(places(program), 2 ** keeping * around)


class MachineOfTest(unittest.TestCase):
    def check(self, program):
        """machine_of beside the standings, and what it writes beside the program's result."""
        machine = machine_of(program)
        self.assertIsNone(machine_error(machine))
        self.assertEqual(repr(machine), repr(told_least(program)), program)
        self.assertEqual(machine, least(machine))
        self.assertLessEqual(len(machine[1]), places(program))
        for width in (1, 2, 3):
            for words in itertools.product(range(2 ** width), repeat=program[0]):
                self.assertEqual(written(machine, width, words), result(program, width, words))
        return machine

    def check_drawn(self, rng, program, machine):
        for width in (7, 64, 255, 256):
            words = random_words(rng, program[0], width)
            bits = bits_written(machine, letters(width, words))
            self.assertEqual(sum(2 ** place for place, bit in enumerate(bits) if bit), result(program, width, words))

    def test_random_programs(self):
        rng = seeded(231)
        sizes = set()
        for many in (0, 1, 2):
            for length in range(1, 7):
                for _ in range(15):
                    program = random_program(rng, many, length)
                    if standings(program, 200) is None or len(set(split(told_machine(program)[1]))) > 24:
                        continue
                    machine = self.check(program)
                    self.check_drawn(rng, program, machine)
                    sizes.add(len(machine[1]))
        self.assertGreater(len(sizes), 6)

    def test_each_instruction(self):
        for word in ONE + TWO + THREE:
            for operands in itertools.product((0, 1), repeat=0 if word in ONE else 1 if word in TWO else 2):
                self.check((2, ((word,) + operands,)))
        for bits in ((0,), (1,), (0, 1), (1, 1, 1), (1, 0, 0), (0, 1, 0, 1)):
            self.check((0, (("mask", bits),)))

    def test_documented_programs(self):
        rng = seeded(232)
        for program in (LOW, MIXED, run_cleared(), without_lowest(), greater(), carried()):
            self.check_drawn(rng, program, self.check(program))

    def test_programs_put_together(self):
        rng = seeded(233)
        pairs = ((2, (("plus", 0, 1),)), (lowest_one(), times(3))), (greater(), (times(2), times(3))), (
            (1, (("prefix", 0),)), (carried(),)), (lowest_one(), (run_cleared(),)), ((2, (("less", 0, 1),)), (
                (0, (("mask", (1, 0, 0)),)), (0, (("mask", (0, 1)),))))
        for program, parts in pairs:
            whole = composed(program, parts)
            self.check_drawn(rng, whole, self.check(whole))

    def test_what_is_alike_is_one(self):
        self.assertEqual(machine_of((1, (("minus", 0), ("minus", 1)))), (1, (((0, 0), (0, 1)),)))
        self.assertEqual(machine_of((1, (("prefix", 0), ("xor", 1, 1)))), (1, (((0, 0), (0, 0)),)))
        self.assertEqual(machine_of((0, (("mask", (1,) * 24),))), (0, (((0, 1),),)))

    def test_24_states_and_25(self):
        self.assertEqual(len(machine_of(masks(24))[1]), 24)
        self.assertEqual(len(machine_of(times(24))[1]), 24)
        self.assertEqual(outcome(machine_of, times(25)), MANY_STATES)
        # Doubled, the mask has a nought at the place 0 that does not come again there.
        self.assertEqual(outcome(machine_of, (0, masks(24)[1] + (("twice", 0),))), MANY_STATES)
        self.assertEqual(len(machine_of((0, masks(23)[1] + (("twice", 0),)))[1]), 24)
        for many in (1, 2):
            self.assertEqual(len(machine_of(chain(many, 23))[1]), 24)
            self.assertEqual(outcome(machine_of, chain(many, 24)), MANY_STATES)

    def test_many_standings_of_few_states(self):
        around = (0, masks(4, 5, 9, 11)[1] + (("zero",),))
        self.assertEqual(machine_of(around), (0, (((0, 0),),)))
        self.assertEqual(machine_of(chain(1, 1999, (("not", 0),))), (1, (((0, 1), (0, 0)),)))
        self.assertEqual(len(machine_of(chain(2, 990, (("less", 0, 1),)))[1]), 2)

    def test_many_states(self):
        start = time.perf_counter()
        around = masks(4, 5, 9, 11)[1]
        for program in (chain(0, 1999), chain(2, 500), (0, around + (("and", 0, 1), ("and", 2, 3), ("and", 4, 5)))):
            self.assertEqual(outcome(machine_of, program), MANY_STATES)
        self.assertEqual(machine_of((0, around)), machine_of(masks(11)))
        self.assertLess(time.perf_counter() - start, 60)

    def test_places_ahead_of_states(self):
        around = masks(4, 5, 9, 11)[1]
        for many in (0, 1, 2):
            for last in ((), (("zero",),), (("twice", many + 20),)):
                self.assertEqual(outcome(machine_of, chain(many, 21, around + last)), MANY_PLACES)
            self.assertEqual(len(machine_of(chain(many, 20, around))[1]), 11)
            last = chain(many, 20, around + (("or", many + 20, many + 20),))
            self.assertEqual(len(machine_of(last)[1]), 21)
            both = chain(many, 20, around + (("and", many + 21, many + 23),))
            self.assertEqual(outcome(machine_of, both), MANY_STATES)

    def test_no_place_is_told_by_a_bound(self):
        # Where a machine goes on beyond the greatest width it is still told whole.
        late = (0, masks(23, 24)[1] + (("and", 0, 1), ("minus", 2), ("or", 2, 3), ("zero",)))
        self.assertEqual(places(late), 1104)
        self.assertEqual(machine_of(late), (0, (((0, 0),),)))
        first = (0, masks(23)[1] + (("minus", 0), ("or", 0, 1), ("not", 2)))
        machine = machine_of(first)
        self.assertEqual(len(machine[1]), 23)
        self.assertEqual(bits_written(machine, (0,) * 300), [1 if place < 22 else 0 for place in range(300)])


if __name__ == "__main__":
    unittest.main()
