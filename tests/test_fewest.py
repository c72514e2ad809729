"""setters, fewest, made_with_fewest."""

import unittest

from carryladder.carrying import machine_of, places
from carryladder.errors import TooMany, Unfit
from carryladder.fewest import fewest, made_with_fewest, setters
from carryladder.leastmachines import least
from carryladder.lookalikes import tells
from carryladder.making import made
from carryladder.programs import program_error
from carryladder.rungs import stands
from tests.helpers import (BLINK, COPY, MINUS, PARITY, PLUS, machine_of_moves, outcome, raises, random_machine,
                           random_program, renamed, seeded)
from tests.making_told import PLAIN, WORDS, does_as
from tests.rungs_told import moves_of

UNFIT = raises(Unfit)
MANY = (raises(TooMany, limit=2000), raises(TooMany, limit=24))
CARRYING = ("twice", "minus", "plus", "less")


def carrying_rows(program):
    return len([row for row in program[1] if row[0] in CARRYING])


def told_setter(machine):
    small = least(machine)
    states = tuple(range(len(small[1])))
    moves = [moves_of(small, (x,)) for x in range(2 ** small[0])]
    return all(own == states or len(set(own)) == 1 for own in moves)


def digits(number):
    """How many figures a number has in base two, none for nought."""
    return len(format(number, "b")) if number else 0


def setter_of(rng, many, states):
    """A machine of so many states whose letters set a state or leave all as it is; letters may be too few."""
    moves = [[state] * states for state in range(1, states)][:2 ** many]
    moves += [rng.choice(([0] * states, list(range(states)))) for _ in range(2 ** many - len(moves))]
    rng.shuffle(moves)
    return machine_of_moves(moves, [[rng.randrange(2) for _ in range(states)] for _ in moves])


class FewestTest(unittest.TestCase):
    def check(self, machine):
        """Check all three, and return how many rows carry, None if the machine is no setter."""
        fits = told_setter(machine)
        self.assertEqual(outcome(setters, machine), repr(fits), machine)
        if not fits:
            self.assertEqual(outcome(fewest, machine), UNFIT)
            self.assertEqual(outcome(made_with_fewest, machine), UNFIT)
            return None
        small = least(machine)
        count = digits(len(small[1]) - 1)
        self.assertEqual(outcome(fewest, machine), repr(count))
        program = made_with_fewest(machine)
        self.assertIsNone(program_error(program))
        self.assertLessEqual({row[0] for row in program[1]}, set(PLAIN + WORDS["sums"]))
        self.assertEqual(carrying_rows(program), count, (machine, program))
        self.assertTrue(does_as(program, machine))
        self.assertTrue(tells(program, machine))
        self.assertEqual(machine_of(program), small)
        self.assertTrue(stands(machine, "sums"))
        return count

    def test_known_machines(self):
        self.assertEqual(self.check(PLUS), 1)
        self.assertEqual(self.check(COPY), 0)
        for machine in (PARITY, BLINK):
            self.assertIsNone(self.check(machine))
        self.assertEqual(self.check(MINUS), 1)

    def test_one_state(self):
        rng = seeded(801)
        for many in (0, 1, 2):
            for _ in range(10):
                self.assertEqual(self.check(random_machine(rng, many, 1)), 0)

    def test_two_to_five_states(self):
        # Four letters set at most four states, the first one besides.
        rng = seeded(802)
        found = {}
        for _ in range(150):
            states = rng.randint(2, 5)
            machine = setter_of(rng, 2, states)
            count = self.check(machine)
            found.setdefault(len(least(machine)[1]), count)
        self.assertEqual(found, {1: 0, 2: 1, 3: 2, 4: 2, 5: 3})

    def test_setters_of_none_and_one_word(self):
        rng = seeded(803)
        for many in (0, 1):
            for states in range(1, 4):
                for _ in range(20):
                    machine = setter_of(rng, many, states)
                    if len(machine[1]) == states:
                        self.check(machine)

    def test_one_letter_that_does_otherwise(self):
        rng = seeded(804)
        refused = 0
        for _ in range(100):
            states = rng.randint(2, 9)
            machine = setter_of(rng, 2, states)
            moves = [list(moves_of(machine, (x,))) for x in range(4)]
            moves[rng.randrange(4)][rng.randrange(states)] = rng.randrange(states)
            refused += self.check(machine_of_moves(moves, [[rng.randrange(2) for _ in own] for own in moves])) is None
        self.assertGreater(refused, 30)

    def test_random_machines(self):
        rng = seeded(805)
        for many in (0, 1, 2):
            for states in range(1, 10):
                for _ in range(15):
                    self.check(random_machine(rng, many, states))

    def test_machines_that_are_not_least(self):
        rng = seeded(806)
        for _ in range(40):
            machine = setter_of(rng, 2, rng.randint(2, 5))
            # Some of the states stand there again, so letters no longer lead all states to one.
            size = len(machine[1])
            rows = [tuple([(rng.choice((after, after + size)), bit) for after, bit in row]) for row in machine[1] * 2]
            other = renamed((2, tuple(rows)), [0] + rng.sample(range(1, 2 * size), 2 * size - 1))
            self.assertEqual(self.check(other), self.check(machine))
            self.assertEqual(repr(made_with_fewest(other)), repr(made_with_fewest(machine)))

    def test_programs_of_sums_have_no_fewer(self):
        rng = seeded(807)
        taken = 0
        while taken < 150:
            program = random_program(rng, rng.randrange(3), rng.randint(1, 7), WORDS["sums"] * 2 + PLAIN)
            if outcome(places, program) in MANY or outcome(machine_of, program) in MANY:
                continue
            taken += 1
            machine = machine_of(program)
            self.assertGreaterEqual(carrying_rows(program), digits(len(machine[1]) - 1))
            count = self.check(machine)
            if count is not None:
                self.assertGreaterEqual(carrying_rows(program), count)
                self.assertGreaterEqual(carrying_rows(made(machine, "sums")), count)


if __name__ == "__main__":
    unittest.main()
