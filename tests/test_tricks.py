"""The tricks: programs for what is often wanted of words."""

import itertools
import unittest

from carryladder.bounds import MAX_PERIOD
from carryladder.carrying import machine_of
from carryladder.lookalikes import same
from carryladder.programs import book_of, composed, program_error
from carryladder.running import result
from carryladder.tricks import (below_lowest, carried, every, gray, greater, lowest_one, run_cleared, same_up_to,
                                times, ungray, without_lowest)
from tests.helpers import seeded

PLAIN = ("zero", "ones", "not", "and", "or", "xor")
WORDS = {
    "minus": PLAIN + ("minus",),
    "twice": PLAIN + ("twice",),
    "prefix": PLAIN + ("prefix",),
    "masks": PLAIN + ("twice", "minus", "plus", "less", "mask"),
    "sums": PLAIN + ("twice", "minus", "plus", "less"),
}


def figures(word, width):
    return [word // 2 ** place % 2 for place in range(width)]


def word_of(bits):
    return sum(2 ** place for place, bit in enumerate(bits) if bit)


def told_lowest(width, a):
    return next((2 ** place for place in range(width) if a // 2 ** place % 2), 0)


def told_below(width, a):
    return told_lowest(width, a) - 1 if a else 2 ** width - 1


def told_run_cleared(width, a):
    bits = figures(a, width)
    place = bits.index(1) if 1 in bits else width
    while place < width and bits[place]:
        bits[place] = 0
        place += 1
    return word_of(bits)


def told_gray(width, a):
    bits = figures(a, width)
    return word_of([bit != before for bit, before in zip(bits, [0] + bits)])


def told_ungray(width, a):
    bits = figures(a, width)
    return word_of([sum(bits[:place + 1]) % 2 for place in range(width)])


OF_ONE = (
    (lowest_one, "minus", told_lowest),
    (below_lowest, "minus", told_below),
    (without_lowest, "minus", lambda width, a: a - told_lowest(width, a)),
    (run_cleared, "sums", told_run_cleared),
    (gray, "twice", told_gray),
    (ungray, "prefix", told_ungray),
)


def told_each(width, holds):
    return word_of([holds(2 ** (place + 1)) for place in range(width)])


OF_TWO = (
    (same_up_to, "minus", lambda width, a, b: told_each(width, lambda top: a % top == b % top)),
    (greater, "sums", lambda width, a, b: told_each(width, lambda top: a % top > b % top)),
    (carried, "sums", lambda width, a, b: told_each(width, lambda top: a % top + b % top >= top)),
)


def drawn(rng, width, many):
    """Words of a great width: its ends, some others, few ones, and few unlike bits."""
    top = 2 ** width
    found = [0, 1, 2, top - 1, top - 2, top // 2, top // 2 - 1, top // 3, top // 3 * 2]
    found += [rng.randrange(top) for _ in range(20)]
    found += [rng.randrange(top) >> rng.randrange(width) << rng.randrange(width) & top - 1 for _ in range(20)]
    found += [2 ** rng.randrange(width) for _ in range(10)]
    if many == 1:
        return [(a,) for a in found]
    near = [(a, a ^ 2 ** rng.randrange(width)) for a in found]
    return [(a, rng.choice(found)) for a in found] + near + [(a, top - 1 - a) for a in found] + [(a, a) for a in found]


class TricksTest(unittest.TestCase):
    def check(self, program, told, words):
        for width in range(1, 7):
            for given in itertools.product(range(2 ** width), repeat=words):
                self.assertEqual(result(program, width, given), told(width, *given), (width, given))
        rng = seeded(211)
        for width in (64, 256) if words else ():
            for given in drawn(rng, width, words):
                self.assertEqual(result(program, width, given), told(width, *given), (width, given))

    def check_shape(self, program, many, book):
        self.assertIsNone(program_error(program))
        self.assertEqual(program[0], many)
        self.assertLessEqual(len(program[1]), 100)
        for row in program[1]:
            self.assertIn(row[0], WORDS[book])

    def test_of_one_word(self):
        for trick, book, told in OF_ONE:
            with self.subTest(trick=trick.__name__):
                self.check_shape(trick(), 1, book)
                self.check(trick(), told, 1)

    def test_of_two_words(self):
        for trick, book, told in OF_TWO:
            with self.subTest(trick=trick.__name__):
                self.check_shape(trick(), 2, book)
                self.check(trick(), told, 2)

    def test_times(self):
        rng = seeded(212)
        for n in range(100):
            program = times(n)
            self.check_shape(program, 1, "sums")
            for width in (1, 2, 3, 4, 5, 6):
                for a in range(2 ** width):
                    self.assertEqual(result(program, width, (a,)), n * a % 2 ** width, n)
            for width in (64, 256):
                for a in [2 ** width - 1, 2 ** (width - 1)] + [rng.randrange(2 ** width) for _ in range(5)]:
                    self.assertEqual(result(program, width, (a,)), n * a % 2 ** width, n)

    def test_every(self):
        for n in range(1, MAX_PERIOD + 1):
            program = every(n)
            self.check_shape(program, 0, "masks")
            for width in (1, 2, 3, 4, 5, 6, 23, 24, 25, 64, 256):
                told = sum(2 ** place for place in range(0, width, n))
                self.assertEqual(result(program, width, ()), told, (n, width))

    def test_books(self):
        told = {gray: "twice", ungray: "prefix", lowest_one: "minus", below_lowest: "minus", without_lowest: "minus",
                same_up_to: "minus"}
        for trick, book in told.items():
            # None of these can be done with less.
            self.assertEqual(book_of(trick()), book)

    def test_equal_calls(self):
        for trick, _, _ in OF_ONE + OF_TWO:
            self.assertEqual(repr(trick()), repr(trick()))
        for n in range(100):
            self.assertEqual(repr(times(n)), repr(times(n)))
            self.assertEqual(repr(times(n=n)), repr(times(n)))
        for n in range(1, MAX_PERIOD + 1):
            self.assertEqual(repr(every(n)), repr(every(n=n)))

    def test_gray_and_ungray_behind_one_another(self):
        left = (1, (("or", 0, 0),))
        rng = seeded(213)
        for both in (composed(gray(), (ungray(),)), composed(ungray(), (gray(),))):
            self.assertTrue(same(both, left))
            for width in (1, 2, 5, 64, 256):
                for a in [0, 2 ** width - 1] + [rng.randrange(2 ** width) for _ in range(20)]:
                    self.assertEqual(result(both, width, (a,)), a)

    def test_lowest_one_and_what_is_left(self):
        left = (1, (("or", 0, 0),))
        self.assertTrue(same(composed((2, (("plus", 0, 1),)), (lowest_one(), without_lowest())), left))
        self.assertTrue(same(composed((2, (("and", 0, 1),)), (lowest_one(), without_lowest())), (1, (("zero",),))))

    def test_carried_makes_the_sum(self):
        moved = composed((1, (("twice", 0),)), (carried(),))
        unlike = composed((2, (("xor", 0, 1),)), (moved, (2, (("xor", 0, 1),))))
        self.assertTrue(same(unlike, (2, (("plus", 0, 1),))))

    def test_machines_of_tricks(self):
        for trick, _, told in OF_ONE + OF_TWO:
            machine = machine_of(trick())
            for width in (1, 2, 3):
                for given in itertools.product(range(2 ** width), repeat=machine[0]):
                    state, bits = 0, []
                    for place in range(width):
                        letter = sum((word >> place & 1) << j for j, word in enumerate(given))
                        state, bit = machine[1][state][letter]
                        bits.append(bit)
                    self.assertEqual(word_of(bits), told(width, *given))


if __name__ == "__main__":
    unittest.main()
