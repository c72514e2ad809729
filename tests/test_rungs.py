"""stands, books_of."""

import itertools
import time
import unittest

from carryladder.carrying import machine_of, places
from carryladder.errors import LadderError, TooMany
from carryladder.leastmachines import least
from carryladder.rungs import books_of, stands
from carryladder.tricks import (below_lowest, carried, every, gray, greater, lowest_one, run_cleared, same_up_to,
                                times, ungray, without_lowest)
from carryladder.turnings import steady, turnings
from tests.helpers import (BLINK, COPY, MINUS, PARITY, PLUS, clock, cycles, machine_of_moves, outcome, raises,
                           random_machine, random_program, renamed, seeded)
from tests.making_told import PLAIN, WORDS
from tests.rungs_told import BOOKS, all_lots, all_turnings, told_books, told_stands

MANY = raises(TooMany, limit=2000)


def quotient(odd):
    """The machine that writes what so many times is the word; its state is what is still to be taken away."""
    rows = []
    for left in range(odd):
        row = []
        for bit in (0, 1):
            written = (bit - left) % 2
            row.append(((left + odd * written - bit) // 2, written))
        rows.append(tuple(row))
    return (1, tuple(rows))


def told_apart(rng, moves):
    """The machine of moves that writes drawn bits, by which it is least if that can be."""
    for _ in range(50):
        bits = [[rng.randrange(2) for _ in own] for own in moves]
        machine = machine_of_moves(moves, bits)
        if len(least(machine)[1]) == len(moves[0]):
            return machine
    return machine


def branched(sizes):
    """Moves of four letters: the state 0 is left by each for another clock, and all clocks go on by each letter."""
    around = [1 + q for q in cycles(*sizes)]
    firsts = [1 + sum(sizes[:k]) for k in range(len(sizes))]
    return [[firsts[x % len(firsts)]] + around for x in range(4)]


class BooksTest(unittest.TestCase):
    def check(self, machine):
        told = told_books(machine)
        self.assertEqual(outcome(books_of, machine), repr(told), machine)
        for book in BOOKS:
            self.assertEqual(outcome(stands, machine, book), repr(book in told), (machine, book))
        self.check_brought_along(told)
        return told

    def check_brought_along(self, books):
        for one, others in (("plain", BOOKS), ("twice", ("sums",)), ("minus", ("sums",)), ("sums", ("masks", "turns")),
                            ("prefix", ("turns",))):
            if one in books:
                for other in others:
                    self.assertIn(other, books)

    def test_random_machines(self):
        rng = seeded(301)
        found = set()
        for many in (0, 1, 2):
            for states in range(1, 5):
                for _ in range(40 if states > 1 else 5):
                    found.add(self.check(random_machine(rng, many, states)))
        self.assertGreater(len(found), 7)

    def test_all_machines_of_two_states_and_one_word(self):
        found = set()
        for moves in itertools.product((0, 1), repeat=4):
            for bits in ((0, 1, 1, 0), (0, 0, 1, 1), (0, 1, 0, 1), (0, 1, 1, 1)):
                steps = list(zip(moves, bits))
                found.add(self.check((1, (tuple(steps[:2]), tuple(steps[2:])))))
        self.assertGreater(len(found), 6)

    def test_known_machines(self):
        self.assertEqual(self.check(MINUS), ("minus", "sums", "masks", "turns"))
        self.assertEqual(self.check(PLUS), ("sums", "masks", "turns"))
        self.assertEqual(self.check(COPY), BOOKS)
        self.assertEqual(self.check(PARITY), ("prefix", "turns"))
        self.assertEqual(self.check(BLINK), ("prefix", "masks", "turns"))
        self.assertEqual(self.check(clock((0, 0, 1))), ("masks",))
        self.assertEqual(self.check(clock((0, 0, 0, 1))), ("prefix", "masks", "turns"))
        self.assertEqual(self.check(clock((1, 0, 0, 0), 3)), ("twice", "minus", "sums", "masks", "turns"))
        self.assertEqual(self.check(clock((1, 1, 0, 1), 2)), ("masks", "turns"))

    def test_clocks(self):
        for states in range(1, 25):
            for back in range(0, states, 5):
                bits = tuple([0] * (states - 1) + [1])
                self.check(clock(bits, back))

    def test_machines_of_tricks(self):
        minus = ("minus", "sums", "masks", "turns")
        for trick in (lowest_one, below_lowest, without_lowest, same_up_to):
            self.assertEqual(self.check(machine_of(trick())), minus)
        for trick in (run_cleared, greater, carried):
            self.assertEqual(self.check(machine_of(trick()))[-3:], ("sums", "masks", "turns"))
        self.assertEqual(self.check(machine_of(gray())), ("twice", "sums", "masks", "turns"))
        self.assertEqual(self.check(machine_of(ungray())), ("prefix", "turns"))
        for n in range(2, 25):
            power = n & (n - 1) == 0
            self.assertEqual(self.check(machine_of(every(n))), ("prefix", "masks", "turns") if power else ("masks",))

    def test_multiplying(self):
        for n in range(20):
            told = self.check(machine_of(times(n)))
            self.assertEqual(told[-3:], ("sums", "masks", "turns"))
            self.assertEqual("twice" in told, n & (n - 1) == 0)
            self.assertEqual("plain" in told, n < 2)
        for n in (20, 21, 22, 23, 24):
            self.assertEqual(outcome(stands, machine_of(times(n)), "minus"), "False")

    def test_dividing(self):
        for odd in range(1, 24, 2):
            self.assertEqual(self.check(quotient(odd)), () if odd > 1 else BOOKS)

    def test_machines_of_programs_of_each_book(self):
        rng = seeded(302)
        for book, words in WORDS.items():
            taken = 0
            while taken < 25:
                program = random_program(rng, rng.randrange(3), rng.randint(1, 6), words * 2 + PLAIN)
                if outcome(places, program) == MANY or places(program) > 60:
                    continue
                machine = outcome(machine_of, program)
                if not machine.startswith("raises"):
                    taken += 1
                    self.assertTrue(stands(machine_of(program), book), (book, program))

    def test_small_machines_of_programs_beside_all_looks(self):
        rng = seeded(303)
        found = set()
        for book, words in WORDS.items():
            for _ in range(30):
                program = random_program(rng, rng.randrange(3), rng.randint(1, 5), words * 2 + PLAIN)
                if outcome(places, program) != MANY and len(outcome(machine_of, program)) < 400:
                    if not outcome(machine_of, program).startswith("raises"):
                        found.add(self.check(machine_of(program)))
        self.assertGreater(len(found), 7)

    def test_machines_that_are_not_least(self):
        rng = seeded(304)
        for machine in (MINUS, PLUS, COPY, PARITY, BLINK, clock((0, 0, 1)), quotient(3), quotient(5)):
            many, rows = machine
            for _ in range(5):
                size = rng.randint(len(rows), 24)
                copies = list(range(len(rows))) + [rng.randrange(len(rows)) for _ in range(size - len(rows))]
                made = [tuple([(rng.choice([k for k, own in enumerate(copies) if own == state]), bit)
                               for state, bit in rows[own]]) for own in copies]
                other = renamed((many, tuple(made)), [0] + rng.sample(range(1, size), size - 1))
                self.assertEqual(books_of(other), books_of(machine))
                for book in BOOKS:
                    self.assertEqual(stands(other, book), stands(machine, book))

    def test_states_that_write_alike_or_are_not_come_to(self):
        self.assertEqual(books_of((1, (((1, 0), (0, 1)), ((0, 0), (1, 1))))), BOOKS)
        lone = (1, MINUS[1] + (((2, 0), (0, 1)), ((3, 1), (2, 1))))
        self.assertEqual(books_of(lone), books_of(MINUS))
        self.assertEqual(books_of(clock((1,) * 24)), BOOKS)

    def test_twice(self):
        # The state is told by the last letters: how many of them need not be few.
        late = [[min(q + 1, 23) for q in range(24)]] * 2
        rng = seeded(305)
        self.assertEqual(books_of(told_apart(rng, late)), ("twice", "minus", "sums", "masks", "turns"))
        shift = [[(2 * q + x) % 16 for q in range(16)] for x in range(2)]
        self.assertEqual(books_of(told_apart(rng, shift)), ("twice", "sums", "masks", "turns"))
        # By one string of five letters alone two states come back.
        held = told_apart(rng, [[1, 2, 3, 4, 0, 6, 7, 8, 9, 5], [q % 5 for q in range(5)] * 2])
        self.assertFalse(stands(held, "twice"))

    def test_one_way_back(self):
        up = [[min(q + x, 23) for q in range(24)] for x in range(2)]
        rng = seeded(306)
        self.assertTrue(stands(told_apart(rng, up), "minus"))
        again = [own[:23] + [0] for own in up]
        self.assertFalse(stands(told_apart(rng, again), "minus"))

    def test_merging_letters(self):
        rng = seeded(307)
        for moves in ([[1, 0, 2, 3], [0, 1, 3, 2]], [[1, 0, 2, 3], [0, 1, 3, 3]], [[1, 0, 3, 2], [2, 3, 0, 1]]):
            self.check(told_apart(rng, [[q for q in own] for own in moves]))
            self.check(told_apart(rng, [[own[-1 - q] for q in range(4)] for own in moves]))

    def test_powers_of_two_around(self):
        rng = seeded(308)
        for moves in ([cycles(8), list(range(8))], [cycles(8), [(q + 2) % 8 for q in range(8)]],
                      [cycles(4), [0, 3, 2, 1]], [cycles(4), [1, 0, 2, 3]], [cycles(6), [0, 5, 4, 3, 2, 1]]):
            told = self.check(told_apart(rng, moves))
            self.assertEqual("turns" in told, moves[1] != [1, 0, 2, 3] and len(moves[0]) != 6)


class TooManyTest(unittest.TestCase):
    def test_turnings_one_to_one(self):
        rng = seeded(311)
        moves = [cycles(7), [1, 0, 2, 3, 4, 5, 6], list(range(7)), list(range(7))]
        machine = told_apart(rng, moves)
        self.assertEqual(len(least(machine)[1]), 7)
        for book in BOOKS:
            told = MANY if book in ("prefix", "sums", "masks", "turns") else "False"
            self.assertEqual(outcome(stands, machine, book), told, book)
        self.assertEqual(outcome(books_of, machine), MANY)

    def test_a_letter_that_leads_two_states_to_one(self):
        rng = seeded(312)
        for merging in ([0, 0, 2, 3, 4, 5, 6], [3] * 7):
            machine = told_apart(rng, [cycles(7), [1, 0, 2, 3, 4, 5, 6], list(range(7)), merging])
            for book in BOOKS:
                told = MANY if book in ("sums", "masks", "turns") else "False"
                self.assertEqual(outcome(stands, machine, book), told, book)
            self.assertEqual(outcome(books_of, machine), MANY)

    def test_masks_without_too_many(self):
        rng = seeded(313)
        start = time.perf_counter()
        machine = told_apart(rng, branched((3, 5, 7, 8)))
        self.assertEqual(len(least(machine)[1]), 24)
        self.assertEqual(outcome(turnings, least(machine)), MANY)
        self.assertEqual(steady(least(machine))[0], 840)
        told = {"prefix": "False", "sums": MANY, "turns": MANY, "masks": "True"}
        for book in BOOKS:
            self.assertEqual(outcome(stands, machine, book), told.get(book, "False"), book)
        self.assertEqual(outcome(books_of, machine), MANY)
        self.assertLess(time.perf_counter() - start, 60)

    def test_masks_without_too_many_and_without_standing(self):
        # As before, but by the last letter one of the clocks waits.
        rng = seeded(314)
        moves = branched((5, 7, 9, 2))
        moves[3] = moves[3][:22] + [22, 23]
        machine = told_apart(rng, moves)
        self.assertEqual(outcome(turnings, least(machine)), MANY)
        self.assertEqual(outcome(stands, machine, "sums"), MANY)
        self.assertEqual(outcome(stands, machine, "masks"), "False")

    def test_turnings_without_too_many_but_masks(self):
        # All lots together have no more turnings than may be, so no lot has.
        rng = seeded(315)
        for _ in range(40):
            machine = least(random_machine(rng, rng.choice((1, 2)), 5))
            if len(all_turnings(machine)) <= 2000:
                self.assertNotIn(MANY, [outcome(stands, machine, book) for book in BOOKS])
            else:
                self.assertEqual(outcome(stands, machine, "sums"), MANY)
                told = "False" if max(len(lot) for lot in all_lots(machine)) <= 2000 else MANY
                self.assertEqual(outcome(stands, machine, "masks"), told)

    def test_the_least_machine_is_asked(self):
        # As it is the machine has too many turnings; the least one has two states.
        lone = [[own + 2 for own in moves] for moves in (cycles(8), [1, 0, 2, 3, 4, 5, 6, 7])]
        moves = [[0, 1] + lone[0], [1, 1] + lone[1]]
        machine = machine_of_moves(moves, [[0, 1] + [0] * 8, [1, 0] + [1] * 8])
        self.assertEqual(outcome(turnings, machine), MANY)
        self.assertEqual(outcome(books_of, machine), repr(books_of(MINUS)))

    def test_a_call_behind_an_error(self):
        rng = seeded(316)
        machine = told_apart(rng, [cycles(7), [1, 0, 2, 3, 4, 5, 6], list(range(7)), [3] * 7])
        for _ in range(2):
            with self.assertRaises(LadderError):
                books_of(machine)
            self.assertEqual(books_of(MINUS), ("minus", "sums", "masks", "turns"))
            self.assertEqual([book for book in BOOKS if told_stands(MINUS, book)], list(books_of(MINUS)))


if __name__ == "__main__":
    unittest.main()
