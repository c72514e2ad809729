"""tells, wrong, same, unlike."""

import itertools
import time
import unittest

from carryladder.carrying import machine_of, places
from carryladder.errors import TooMany, Unfit
from carryladder.lookalikes import same, tells, unlike, wrong
from carryladder.machines import written
from carryladder.programs import composed
from carryladder.running import result
from carryladder.tricks import (below_lowest, carried, gray, greater, lowest_one, run_cleared, times, ungray,
                                without_lowest)
from tests.helpers import (COPY, LOW, MINUS, MIXED, PLUS, clock, letters, outcome, raises, random_machine,
                           random_program, random_words, seeded, standings, stepped)

MANY_PLACES = raises(TooMany, limit=2000)


def masks(*sizes, last=()):
    """A program of masks, each with a one at its last place alone, and last behind them."""
    return (0, tuple([("mask", (0,) * (size - 1) + (1,)) for size in sizes]) + last)


def nowhere(*sizes):
    """Masks, and the word without ones."""
    return masks(*sizes, last=(("zero",),))


def all_of(many, *sizes):
    """Masks, and the and of them all: a one at each place at which all have one."""
    rows = [("mask", (0,) * (size - 1) + (1,)) for size in sizes]
    last = many
    for k in range(1, len(sizes)):
        rows.append(("and", last, many + k))
        last = many + len(rows) - 1
    return (many, tuple(rows))


def first_standing(program):
    return tuple([0 for row in program[1] if row[0] in ("twice", "minus", "plus", "less", "prefix", "mask")])


def by_program(program):
    return first_standing(program), lambda standing, letter: stepped(program, standing, letter)


def by_machine(machine):
    return 0, lambda state, letter: machine[1][state][letter]


def told_parting(many, one, other):
    """The first string that parts, by all pairs of standings, and the words that have it."""
    start = (one[0], other[0])
    found, line = {start}, [(start, ())]
    for (p, q), string in line:
        for letter in range(2 ** many):
            (left, bit), (right, sign) = one[1](p, letter), other[1](q, letter)
            longer = string + (letter,)
            if bit != sign:
                words = [sum(2 ** i for i, own in enumerate(longer) if own >> j & 1) for j in range(many)]
                return len(longer), tuple(words)
            if (left, right) not in found:
                found.add((left, right))
                line.append(((left, right), longer))
    return None


def told_by_words(many, one, other, widths):
    """parting, by all words of these widths; None if there are none that part."""
    for width in widths:
        apart = [tuple(letters(width, words)) + words for words in itertools.product(range(2 ** width), repeat=many)
                 if one(width, words) != other(width, words)]
        if apart:
            return width, min(apart)[width:]
    return None


def changed(rng, program):
    """The program with one row another one."""
    many, rows = program
    at = rng.randrange(len(rows))
    row = random_program(rng, many + at, 1)[1] if many + at else ((rng.choice(("zero", "ones")),),)
    return (many, rows[:at] + row + rows[at + 1:])


class UnlikeTest(unittest.TestCase):
    def check(self, one, other):
        if standings(one, 2000) is None or standings(other, 2000) is None:
            self.assertEqual(outcome(unlike, one, other), MANY_PLACES)
            self.assertEqual(outcome(same, one, other), MANY_PLACES)
            return None
        told = told_parting(one[0], by_program(one), by_program(other))
        self.assertEqual(outcome(unlike, one, other), repr(told), (one, other))
        self.assertEqual(outcome(unlike, other, one), repr(told))
        self.assertEqual(outcome(same, one, other), repr(told is None))
        self.assertEqual(outcome(same, other, one), repr(told is None))
        if told is not None:
            self.assertLess(told[0], places(one) + places(other))
        return told

    def test_random_programs(self):
        rng = seeded(241)
        widths = set()
        for many in (0, 1, 2):
            for length in range(1, 6):
                for _ in range(40):
                    one = random_program(rng, many, length)
                    told = self.check(one, random_program(rng, many, rng.randint(1, 5)))
                    widths.add(None if told is None else told[0])
                    told = self.check(one, changed(rng, one))
                    widths.add(None if told is None else told[0])
        self.assertGreater(len(widths), 5)

    def test_beside_all_words_of_small_widths(self):
        rng = seeded(242)
        for many, widths in ((0, range(1, 9)), (1, range(1, 6)), (2, range(1, 4))):
            for _ in range(60):
                one, other = random_program(rng, many, 4), random_program(rng, many, 4)
                told = told_by_words(many, lambda width, words: result(one, width, words),
                                     lambda width, words: result(other, width, words), widths)
                found = unlike(one, other)
                self.assertEqual(told, found if found is not None and found[0] < widths.stop else None)

    def test_words_of_the_least_width(self):
        rng = seeded(243)
        for many in (1, 2):
            for _ in range(40):
                one, other = random_program(rng, many, 5), random_program(rng, many, 5)
                found = unlike(one, other)
                if found is None:
                    for width in (1, 5, 64, 256):
                        words = random_words(rng, many, width)
                        self.assertEqual(result(one, width, words), result(other, width, words))
                    continue
                width, words = found
                # They part at the last bit alone.
                self.assertEqual(result(one, width, words) ^ result(other, width, words), 2 ** (width - 1))

    def test_the_first_string_is_not_the_least_word(self):
        both = (1, (("twice", 0), ("or", 0, 1)))
        self.assertEqual(unlike(both, (1, (("or", 0, 0),))), (2, (1,)))
        self.assertEqual(unlike(both, (1, (("ones",), ("minus", 1), ("and", 0, 2)))), (2, (2,)))
        self.assertEqual(unlike((2, (("plus", 0, 1),)), (2, (("or", 0, 1),))), (1, (1, 1)))
        self.assertEqual(unlike((2, (("plus", 0, 1),)), (2, (("xor", 0, 1),))), (2, (1, 1)))
        self.assertEqual(unlike((2, (("less", 0, 1),)), (2, (("xor", 0, 1),))), (2, (0, 1)))
        self.assertEqual(unlike((2, (("less", 1, 0),)), (2, (("xor", 0, 1),))), (2, (1, 0)))

    def test_alike(self):
        pairs = (
            ((1, (("not", 0), ("minus", 1))), (1, (("ones",), ("less", 0, 1)))),
            ((1, (("twice", 0),)), times(2)), (times(3), (1, (("twice", 0), ("plus", 0, 1)))),
            (times(6), composed(times(2), (times(3),))), (times(99), composed(times(33), (times(3),))),
            (composed(gray(), (ungray(),)), (1, (("and", 0, 0),))), (composed(ungray(), (gray(),)), times(1)),
            (composed((1, (("not", 0),)), (below_lowest(),)), (1, (("minus", 0), ("or", 0, 1)))),
            (composed((2, (("or", 0, 1),)), (lowest_one(), without_lowest())), times(1)),
            ((1, (("ones",), ("plus", 0, 1), ("and", 0, 2))), without_lowest()),
            ((2, (("minus", 1), ("plus", 0, 2))), (2, (("less", 0, 1),))),
            ((2, (("not", 0), ("plus", 1, 2), ("not", 3))), (2, (("less", 0, 1),))),
        )
        for one, other in pairs:
            self.assertIsNone(self.check(one, other))

    def test_a_program_and_itself(self):
        rng = seeded(244)
        for program in (LOW, MIXED, run_cleared(), greater(), carried(), random_program(rng, 2, 6)):
            self.assertEqual(outcome(same, program, program), "True")
            self.assertEqual(outcome(unlike, program, program), "None")
            longer = composed((1, (("not", 0), ("not", 1))), (program,))
            self.assertEqual(outcome(same, program, longer), "True")

    def test_parting_beyond_the_greatest_width(self):
        for many in (0, 1, 2):
            late = all_of(many, 23, 24)
            told = (552, (0,) * many)
            self.assertEqual(unlike(late, (many, (("zero",),))), told)
            self.assertEqual(wrong(late, (many, (((0, 0),) * 2 ** many,))), told)
            self.assertFalse(same(late, (many, (("zero",),))))
            self.assertFalse(tells(late, (many, (((0, 0),) * 2 ** many,))))
            self.assertEqual(result(late, 256, (0,) * many), 0)
        self.assertEqual(unlike(all_of(0, 4, 5, 9, 11), (0, (("zero",),))), (1980, ()))

    def test_parting_late_and_by_one_word_alone(self):
        late = all_of(1, 23, 24)
        both = (1, late[1] + (("and", 0, len(late[1])),))
        self.assertEqual(unlike(both, (1, (("zero",),))), (552, (2 ** 551,)))
        counted = (1, late[1] + (("minus", 0), ("and", len(late[1]), len(late[1]) + 1)))
        # The word before the last place may be any: the first string that has a one below it is wanted.
        self.assertEqual(unlike(counted, (1, (("zero",),))), (552, (2 ** 551,)))
        below = (1, late[1] + (("minus", 0), ("xor", 0, len(late[1]) + 1), ("and", len(late[1]), len(late[1]) + 2)))
        self.assertEqual(unlike(below, (1, (("zero",),))), (552, (2 ** 550,)))

    def test_more_than_2000_standings_together(self):
        start = time.perf_counter()
        self.assertEqual(unlike(all_of(0, 4, 5, 9, 11), all_of(0, 3, 4, 11, 13)), (1716, ()))
        # All pairs of places are 1980 by 1365 or more: these two come round together very late.
        one, other = nowhere(4, 5, 9, 11), nowhere(3, 7, 13, 5)
        self.assertEqual(outcome(same, one, other), "True")
        self.assertEqual(outcome(unlike, one, other), "None")
        self.assertEqual(places(one), 1980)
        self.assertEqual(unlike(all_of(2, 4, 5, 9, 11), all_of(2, 17, 23, 5)), (1955, (0, 0)))
        self.assertLess(time.perf_counter() - start, 60)

    def test_chains_of_2000_places(self):
        start = time.perf_counter()
        one, other = [(1, (("ones",),) + tuple([("twice", 1 + k) for k in range(length)])) for length in (1999, 1998)]
        self.assertEqual(unlike(one, other), (1999, (0,)))
        self.assertTrue(same(one, one))
        self.assertLess(time.perf_counter() - start, 60)

    def test_errors(self):
        great, small = nowhere(8, 11, 23), (0, (("zero",),))
        for one, other in ((great, small), (small, great), (great, great)):
            self.assertEqual(outcome(same, one, other), MANY_PLACES)
            self.assertEqual(outcome(unlike, one, other), MANY_PLACES)

    def test_unfit_ahead_of_too_many(self):
        great = (0, nowhere(8, 11, 23)[1])
        for one, other in itertools.permutations((great, LOW, MIXED), 2):
            self.assertEqual(outcome(same, one, other), raises(Unfit))
            self.assertEqual(outcome(unlike, one, other), raises(Unfit))
        self.assertEqual(outcome(unlike, great, (1, great[1])), raises(Unfit))

    def test_alike_just_if_the_machines_are_one(self):
        rng = seeded(245)
        told = set()
        for _ in range(150):
            one = random_program(rng, 1, rng.randint(1, 3), ("not", "and", "or", "xor", "twice", "minus", "prefix"))
            other = random_program(rng, 1, rng.randint(1, 3), ("not", "and", "or", "xor", "twice", "less", "plus"))
            told.add(same(one, other))
            self.assertEqual(same(one, other), machine_of(one) == machine_of(other))
        self.assertEqual(told, {True, False})


class WrongTest(unittest.TestCase):
    def check(self, program, machine):
        told = told_parting(program[0], by_program(program), by_machine(machine))
        self.assertEqual(outcome(wrong, program, machine), repr(told))
        self.assertEqual(outcome(tells, program, machine), repr(told is None))
        if told is not None:
            self.assertLess(told[0], places(program) + len(machine[1]))
        return told

    def test_random_programs_and_machines(self):
        rng = seeded(251)
        widths = set()
        for many in (0, 1, 2):
            for _ in range(80):
                program = random_program(rng, many, rng.randint(1, 5))
                told = self.check(program, random_machine(rng, many, rng.randint(1, 5)))
                widths.add(None if told is None else told[0])
        self.assertGreater(len(widths), 3)

    def test_machines_of_programs_and_near_ones(self):
        rng = seeded(252)
        widths = set()
        for many in (0, 1, 2):
            for _ in range(60):
                program = random_program(rng, many, rng.randint(1, 5), ("zero", "ones") if many == 0 else (
                    "not", "and", "or", "xor", "twice", "minus", "plus", "less", "prefix"))
                machine = machine_of(program)
                self.assertIsNone(self.check(program, machine))
                rows = [list(row) for row in machine[1]]
                q, x = rng.randrange(len(rows)), rng.randrange(2 ** many)
                rows[q][x] = (rng.randrange(len(rows)), rng.randrange(2))
                told = self.check(program, (many, tuple([tuple(row) for row in rows])))
                widths.add(None if told is None else told[0])
        self.assertGreater(len(widths), 4)

    def test_beside_all_words_of_small_widths(self):
        rng = seeded(253)
        for many, widths in ((0, range(1, 9)), (1, range(1, 6)), (2, range(1, 4))):
            for _ in range(40):
                program, machine = random_program(rng, many, 4), random_machine(rng, many, 3)
                told = told_by_words(many, lambda width, words: result(program, width, words),
                                     lambda width, words: written(machine, width, words), widths)
                found = wrong(program, machine)
                self.assertEqual(told, found if found is not None and found[0] < widths.stop else None)

    def test_known_machines(self):
        self.assertIsNone(self.check((1, (("minus", 0),)), MINUS))
        self.assertIsNone(self.check((2, (("plus", 0, 1),)), PLUS))
        self.assertIsNone(self.check((1, (("or", 0, 0),)), COPY))
        self.assertEqual(self.check((2, (("less", 0, 1),)), PLUS), (2, (0, 1)))
        self.assertEqual(self.check((2, (("xor", 0, 1),)), PLUS), (2, (1, 1)))

    def test_machines_of_24_states(self):
        bits = (0,) * 23 + (1,)
        self.assertIsNone(self.check((0, (("mask", bits),)), clock(bits)))
        self.assertEqual(self.check((0, (("mask", bits),)), clock(bits, 1)), (47, ()))
        self.assertEqual(self.check((0, (("zero",),)), clock(bits)), (24, ()))
        self.assertIsNone(self.check(times(23), machine_of(times(23))))
        self.assertEqual(self.check(times(23), machine_of(times(19))), (3, (1,)))

    def test_machines_that_are_not_least(self):
        self.assertTrue(tells((1, (("minus", 0),)), (1, (((0, 0), (2, 1)), ((1, 0), (1, 0)), ((2, 1), (2, 0))))))
        self.assertTrue(tells((0, (("ones",),)), clock((1,) * 24)))

    def test_errors(self):
        great = nowhere(8, 11, 23)
        zero = (0, (((0, 0),),))
        for call in (tells, wrong):
            self.assertEqual(outcome(call, great, zero), MANY_PLACES)
            self.assertEqual(outcome(call, great, clock((1,))), MANY_PLACES)
            for program, machine in ((great, MINUS), (great, PLUS), (LOW, zero), (LOW, PLUS), (MIXED, COPY)):
                self.assertEqual(outcome(call, program, machine), raises(Unfit))

    def test_errors_between_calls(self):
        for _ in range(2):
            self.assertEqual(outcome(wrong, LOW, COPY), "(2, (3,))")
            self.assertEqual(outcome(wrong, nowhere(8, 11, 23), (0, (((0, 0),),))), MANY_PLACES)
            self.assertEqual(outcome(unlike, LOW, times(1)), "(2, (3,))")
            self.assertEqual(outcome(unlike, LOW, MIXED), raises(Unfit))


if __name__ == "__main__":
    unittest.main()
