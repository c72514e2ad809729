"""made."""

import itertools
import time
import unittest

from carryladder.carrying import machine_of, places
from carryladder.errors import LadderError, TooMany, Unfit
from carryladder.leastmachines import least
from carryladder.lookalikes import same, tells
from carryladder.machines import written
from carryladder.making import made
from carryladder.programs import book_of, program_error
from carryladder.rungs import stands
from carryladder.running import result
from carryladder.turnings import steady
from tests.helpers import (BLINK, COPY, MINUS, PARITY, PLUS, clock, cycles, machine_of_moves, outcome, raises,
                           random_machine, random_program, random_words, renamed, seeded)
from tests.making_told import (PLAIN, WORDS, around, counted, does_as, drawn_bits, drawn_moves, halves_turned, higher,
                               into_clocks, last_letters, left_for_good, lower, one_down, one_up, ordered,
                               pairs_turned, squares_turned, staying, to_one)
from tests.rungs_told import BOOKS, told_stands

UNFIT = raises(Unfit)
MANY = raises(TooMany, limit=2000)
GIVEN_UP = (raises(TooMany, limit=6000), raises(TooMany, limit=24))


def is_small(machine, book):
    """Whether no program of book for machine may be given up as too great."""
    small = least(machine)
    states = len(small[1])
    if book == "masks":
        return states <= 3 and small[0] <= 1 and steady(small)[0] <= 6
    return states <= 4 and small[0] <= 1 or states <= 3


class MadeCase(unittest.TestCase):
    def check(self, machine, book, fits=None):
        """Check what is made, and return its rows; None if nothing is."""
        told = outcome(made, machine, book)
        if fits is None:
            # Where there are too many turnings to look at, it is asked ahead of all else.
            self.assertEqual(told == MANY, outcome(stands, machine, book) == MANY)
            if told == MANY:
                return None
            fits = told_stands(machine, book)
        if not fits:
            self.assertEqual(told, UNFIT, (machine, book))
            return None
        if told in GIVEN_UP and not is_small(machine, book):
            return None
        self.assertFalse(told.startswith("raises"), (machine, book, told))
        program = made(machine, book)
        self.assertEqual(repr(program), told)
        self.assertIsNone(program_error(program))
        self.assertLessEqual({row[0] for row in program[1]}, set(PLAIN + WORDS[book]), (machine, book))
        self.assertTrue(does_as(program, machine), (machine, book, program))
        if outcome(places, program) != MANY:
            self.assertTrue(tells(program, machine))
            self.assertEqual(machine_of(program), least(machine))
        return program[1]

    def check_all(self, machine):
        return [book for book in BOOKS if self.check(machine, book) is not None]


class SmallMachinesTest(MadeCase):
    def test_all_machines_of_two_states_and_one_word(self):
        for moves in itertools.product((0, 1), repeat=4):
            for bits in itertools.product((0, 1), repeat=4):
                steps = list(zip(moves, bits))
                self.check_all((1, (tuple(steps[:2]), tuple(steps[2:]))))

    def test_machines_of_two_states_and_none_or_two_words(self):
        rng = seeded(401)
        for many in (0, 2):
            for _ in range(60):
                self.check_all(random_machine(rng, many, 2))

    def test_machines_of_one_state(self):
        rng = seeded(402)
        for many in (0, 1, 2):
            for _ in range(12):
                self.assertEqual(self.check_all(random_machine(rng, many, 1)), list(BOOKS))

    def test_known_machines(self):
        for machine in (MINUS, PLUS, COPY, PARITY, BLINK):
            self.check_all(machine)

    def test_machines_of_three_and_four_states(self):
        rng = seeded(403)
        for many, states, count in ((0, 3, 20), (0, 4, 30), (1, 3, 150), (1, 4, 150), (2, 3, 80)):
            for _ in range(count):
                self.check_all(random_machine(rng, many, states))

    def test_machines_of_three_and_four_states_that_stand_on_more(self):
        rng = seeded(404)
        kinds = (lower, higher, one_up, one_down, ordered, to_one, staying, around, pairs_turned)
        for many, states in ((1, 3), (1, 4), (2, 3)):
            for _ in range(60):
                self.check_all(drawn_moves(rng, many, states, kinds))

    def test_nothing_is_too_great_and_nothing_takes_long(self):
        # The limits on rows and seconds are far above what was seen; they are there to tell if that changes.
        rng = seeded(405)
        longest = {book: 0 for book in BOOKS}
        start = time.perf_counter()
        for many, states in ((1, 4), (2, 3)):
            for _ in range(400):
                machine = random_machine(rng, many, states)
                for book in BOOKS:
                    if stands(machine, book):
                        longest[book] = max(longest[book], len(made(machine, book)[1]))
        self.assertLess(time.perf_counter() - start, 60)
        self.assertLess(max(longest.values()), 300, longest)


class BooksTest(MadeCase):
    def test_plain(self):
        rng = seeded(411)
        for many in (0, 1, 2):
            for bits in itertools.product((0, 1), repeat=2 ** many):
                rows = self.check((many, (tuple([(0, bit) for bit in bits]),)), "plain", True)
                self.assertLessEqual(len(rows), 4)
            self.check(random_machine(rng, many, 4), "plain")

    def test_minus(self):
        rng = seeded(412)
        for many in (0, 1, 2):
            for states in range(2, 7):
                for _ in range(15):
                    self.assertIsNotNone(self.check(left_for_good(rng, many, states), "minus", True))
        for states in (12, 24):
            for many in (1, 2):
                self.assertIsNotNone(self.check(left_for_good(rng, many, states), "minus", True))
        chain = drawn_bits(rng, [one_up(rng, 24), staying(rng, 24)])
        self.assertIsNotNone(self.check(chain, "minus", True))

    def test_twice(self):
        rng = seeded(413)
        for many, count in ((1, 1), (1, 2), (1, 3), (2, 1)):
            for cut in (0, 1):
                for _ in range(8):
                    self.assertIsNotNone(self.check(last_letters(rng, many, count, cut), "twice", True))
        for states in range(2, 9):
            self.assertIsNotNone(self.check(counted(rng, states), "twice", True))
        for machine in (last_letters(rng, 1, 4, 0), last_letters(rng, 2, 2, 0), counted(rng, 24)):
            self.assertIsNotNone(self.check(machine, "twice", True))

    def test_sums(self):
        rng = seeded(414)
        found = 0
        for many in (1, 2):
            for states in range(2, 9):
                for kinds in ((lower, to_one), (higher, to_one), (lower, higher, to_one), (one_up, one_down, to_one),
                              (ordered, to_one), (to_one, staying), (ordered, one_up, one_down, staying)):
                    for _ in range(3):
                        machine = drawn_moves(rng, many, states, kinds)
                        found += self.check(machine, "sums") is not None
        self.assertGreater(found, 200)

    def test_prefix(self):
        rng = seeded(415)
        for many in (0, 1, 2):
            for states in (2, 4, 8):
                for kinds in ((pairs_turned,), (squares_turned,), (around, staying), (halves_turned,)):
                    for _ in range(4):
                        machine = drawn_moves(rng, many, states, kinds)
                        self.assertIsNotNone(self.check(machine, "prefix", True))
                for _ in range(4):
                    # Some of these bring about rings of three.
                    self.check(drawn_moves(rng, many, states, (squares_turned, pairs_turned)), "prefix")
        for _ in range(4):
            self.assertIsNotNone(self.check(drawn_bits(rng, [cycles(16), staying(rng, 16)]), "prefix", True))

    def test_turns(self):
        rng = seeded(416)
        found = 0
        for many in (1, 2):
            for states in range(2, 9):
                for kinds in ((pairs_turned, to_one), (squares_turned, to_one), (squares_turned, to_one, staying),
                              (pairs_turned, squares_turned, lower), (pairs_turned, one_up, to_one)):
                    for _ in range(3):
                        machine = drawn_moves(rng, many, states, kinds)
                        found += self.check(machine, "turns") is not None
        for _ in range(6):
            for states in (2, 4, 8):
                machine = drawn_moves(rng, 2, states, (halves_turned, around, to_one))
                found += self.check(machine, "turns") is not None
        self.assertGreater(found, 150)

    def test_turns_of_two_parts(self):
        # The one part is turned or set by some letters, the other one by others.
        rng = seeded(417)
        for _ in range(20):
            moves = []
            for _ in range(4):
                one = rng.choice((around, to_one, staying))(rng, 2)
                other = rng.choice((around, to_one, staying, squares_turned))(rng, 4)
                moves.append([one[q // 4] * 4 + other[q % 4] for q in range(8)])
            self.assertIsNotNone(self.check(drawn_bits(rng, moves), "turns", True))

    def test_masks(self):
        rng = seeded(418)
        for states in range(2, 9):
            for many in (1, 2):
                for sets in range(0, 2 ** many):
                    moves = [to_one(rng, states) for _ in range(sets)] + [cycles(states)] * (2 ** many - sets)
                    self.assertIsNotNone(self.check(drawn_bits(rng, moves), "masks", True))
        for sizes in ((2, 3), (3, 4), (2, 5), (4, 4), (5, 7), (11, 12)):
            for many in (1, 2):
                self.assertIsNotNone(self.check(into_clocks(rng, many, sizes), "masks", True))

    def test_clocks(self):
        rng = seeded(419)
        for states in range(1, 25):
            for back in (0, states // 2, states - 1):
                machine = clock([rng.randrange(2) for _ in range(states)], back)
                self.check_all(machine)
                self.assertIsNotNone(self.check(machine, "masks", True))


class OtherMachinesTest(MadeCase):
    def spread(self, rng, machine):
        """The machine with states told twice, called otherwise, and some that no string comes to."""
        many, rows = machine
        size = rng.randint(len(rows) + 1, min(24, 2 * len(rows) + 2))
        copies = list(range(len(rows))) + [rng.randrange(len(rows)) for _ in range(size - len(rows))]
        told = [tuple([(rng.choice([k for k, own in enumerate(copies) if own == state]), bit)
                       for state, bit in rows[own]]) for own in copies]
        return renamed((many, tuple(told)), [0] + rng.sample(range(1, size), size - 1))

    def test_machines_that_are_not_least(self):
        rng = seeded(421)
        machines = [MINUS, PLUS, COPY, PARITY, BLINK, clock((0, 0, 1)), counted(rng, 4), left_for_good(rng, 1, 5)]
        machines += [random_machine(rng, many, 3) for many in (0, 1, 2) for _ in range(6)]
        for machine in machines:
            for _ in range(2):
                other = self.spread(rng, machine)
                for book in BOOKS:
                    fits = told_stands(machine, book)
                    self.check(other, book, fits)
                    if fits:
                        self.assertTrue(same(made(other, book), made(machine, book)))

    def test_states_that_no_string_comes_to(self):
        lone = (1, MINUS[1] + (((2, 0), (0, 1)), ((3, 1), (2, 1))))
        self.assertEqual(self.check_all(lone), self.check_all(MINUS))
        self.assertEqual(made(lone, "minus"), made(MINUS, "minus"))

    def test_programs_of_each_book(self):
        rng = seeded(422)
        for book in BOOKS:
            taken = 0
            while taken < 40:
                program = random_program(rng, rng.randrange(3), rng.randint(1, 7), WORDS[book] * 2 + PLAIN)
                if outcome(places, program) == MANY or outcome(machine_of, program).startswith("raises"):
                    continue
                taken += 1
                machine = machine_of(program)
                if self.check(machine, book, True) is not None:
                    again = made(machine, book)
                    self.assertTrue(same(again, program), (program, book))
                    self.assertEqual(self.check(machine_of(again), book, True), again[1])

    def test_great_widths(self):
        rng = seeded(423)
        machines = [MINUS, PLUS, COPY, PARITY, BLINK, into_clocks(rng, 1, (3, 4)), counted(rng, 6)]
        machines += [random_machine(rng, many, 3) for many in (1, 2) for _ in range(20)]
        for machine in machines:
            for book in BOOKS:
                if told_stands(machine, book):
                    program = made(machine, book)
                    self.assertIn(book_of(program), BOOKS)
                    for width in (1, 8, 64, 256):
                        for _ in range(4):
                            words = random_words(rng, machine[0], width)
                            self.assertEqual(result(program, width, words), written(machine, width, words))

    def test_made_again(self):
        rng = seeded(424)
        for _ in range(60):
            machine = random_machine(rng, rng.choice((0, 1, 2)), 3)
            for book in BOOKS:
                told = outcome(made, machine, book)
                self.assertEqual(outcome(made, machine, book), told)
                if not told.startswith("raises"):
                    small = machine_of(made(machine, book))
                    self.assertEqual(small, least(machine))
                    self.assertEqual(outcome(made, small, book), told)


class ErrorsTest(MadeCase):
    def test_unfit(self):
        for machine, books in ((PARITY, ("plain", "twice", "minus", "sums", "masks")), (PLUS, BOOKS[:4]),
                               (MINUS, ("plain", "prefix", "twice")), (clock((0, 0, 1)), ("prefix", "sums", "turns"))):
            for book in books:
                self.assertEqual(outcome(made, machine, book), UNFIT)

    def test_too_many_turnings_ahead_of_unfit(self):
        rng = seeded(431)
        still = list(range(7))
        for last, raised in ((still, ("prefix", "sums", "masks", "turns")), ([3] * 7, ("sums", "masks", "turns"))):
            machine = drawn_bits(rng, [cycles(7), [1, 0, 2, 3, 4, 5, 6], still, last])
            self.assertEqual(len(least(machine)[1]), 7)
            for book in BOOKS:
                told = outcome(made, machine, book)
                self.assertEqual(told, MANY if book in raised else UNFIT)
                self.assertEqual(outcome(stands, machine, book), MANY if book in raised else "False")

    def test_masks_where_sums_are_too_many(self):
        machine = into_clocks(seeded(432), 2, (3, 5, 7, 8))
        self.assertEqual(outcome(made, machine, "sums"), MANY)
        start = time.perf_counter()
        program = made(machine, "masks")
        self.assertLess(time.perf_counter() - start, 60)
        for width in (1, 30, 256):
            words = random_words(seeded(width), 2, width)
            self.assertEqual(result(program, width, words), written(machine, width, words))

    def test_what_is_too_great_is_given_up(self):
        # Each image of a row of states that letters move up or down has two tiles: the ways are two to the power 19.
        rng = seeded(433)
        machine = drawn_bits(rng, [one_up(rng, 20), one_down(rng, 20)])
        start = time.perf_counter()
        self.assertIn(outcome(made, machine, "sums"), GIVEN_UP + (MANY,))
        smaller = drawn_bits(rng, [one_up(rng, 14), one_down(rng, 14)])
        self.assertEqual(outcome(stands, smaller, "sums"), "True")
        told = outcome(made, smaller, "sums")
        self.assertTrue(told in GIVEN_UP or not told.startswith("raises"), told)
        self.assertLess(time.perf_counter() - start, 60)

    def test_calls_behind_an_error(self):
        grown = machine_of_moves([cycles(8), [1, 0, 2, 3, 4, 5, 6, 7], list(range(8)), [0] * 8], [[0] * 7 + [1]] * 4)
        for _ in range(2):
            self.assertEqual(outcome(made, grown, "turns"), MANY)
            self.assertEqual(outcome(made, PARITY, "sums"), UNFIT)
            self.assertTrue(tells(made(PARITY, "turns"), PARITY))
            with self.assertRaises(LadderError):
                made(MINUS, "twice")


if __name__ == "__main__":
    unittest.main()
