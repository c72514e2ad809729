"""values, result."""

import itertools
import unittest

from carryladder.running import result, values
from tests.helpers import LOW, MIXED, ONE, THREE, TWO, outcome, random_program, random_words, seeded

WORDS = ONE + TWO + THREE + ("mask",)


def figures(word, width):
    """The bits of a word, the one at 0 first."""
    return [word // 2 ** place % 2 for place in range(width)]


def from_figures(bits):
    return sum(2 ** place for place, bit in enumerate(bits) if bit)


def told_value(row, width, a=0, b=0):
    """The value of an instruction, by whole numbers and figures."""
    top = 2 ** width
    one, other = figures(a, width), figures(b, width)
    if row[0] == "mask":
        return from_figures([row[1][place % len(row[1])] for place in range(width)])
    return {
        "zero": 0,
        "ones": top - 1,
        "not": top - 1 - a,
        "and": from_figures([min(x, y) for x, y in zip(one, other)]),
        "or": from_figures([max(x, y) for x, y in zip(one, other)]),
        "xor": from_figures([x != y for x, y in zip(one, other)]),
        "twice": 2 * a % top,
        "minus": (top - a) % top,
        "plus": (a + b) % top,
        "less": (top + a - b) % top,
        "prefix": from_figures([sum(one[:place + 1]) % 2 for place in range(width)]),
    }[row[0]]


def told_values(program, width, words):
    known = list(words)
    for row in program[1]:
        given = [] if row[0] == "mask" else [known[operand] for operand in row[1:]]
        known.append(told_value(row, width, *given))
    return tuple(known[program[0]:])


def words_to_try(rng, width):
    """All words of a small width; of a great one its ends, a few near them, and some others."""
    top = 2 ** width
    if width <= 4:
        return list(range(top))
    near = [0, 1, 2, 3, top - 1, top - 2, top // 2, top // 2 - 1, top // 2 + 1]
    return near + [top // 3, top // 3 * 2] + [rng.randrange(top) for _ in range(6)]


class InstructionsTest(unittest.TestCase):
    def check(self, row, width, words):
        program = (len(words), (row,))
        told = told_value(row, width, *words)
        self.assertEqual(outcome(values, program, width, words), repr((told,)), (row, width, words))
        self.assertEqual(outcome(result, program, width, words), repr(told))

    def test_of_no_words(self):
        for width in (1, 2, 3, 4, 63, 64, 65, 255, 256):
            for word in ONE:
                self.check((word,), width, ())

    def test_of_one_word(self):
        rng = seeded(51)
        for width in (1, 2, 3, 4, 5, 7, 8, 9, 63, 64, 65, 255, 256):
            for a in words_to_try(rng, width):
                for word in TWO:
                    self.check((word, 0), width, (a,))

    def test_of_two_words(self):
        rng = seeded(52)
        for width in (1, 2, 3, 4, 64, 256):
            for a, b in itertools.product(words_to_try(rng, width), repeat=2):
                for word in THREE:
                    self.check((word, 0, 1), width, (a, b))

    def test_one_word_twice(self):
        rng = seeded(53)
        for width in (1, 4, 64, 256):
            for a in words_to_try(rng, width):
                for word in THREE:
                    program = (1, ((word, 0, 0),))
                    self.assertEqual(result(program, width, (a,)), told_value((word, 0, 0), width, a, a))

    def test_the_order_of_operands(self):
        for width in (1, 3, 64, 256):
            top = 2 ** width
            self.assertEqual(result((2, (("less", 1, 0),)), width, (1, 0)), top - 1)
            self.assertEqual(result((2, (("less", 0, 1),)), width, (1, 0)), 1)

    def test_masks(self):
        rng = seeded(54)
        for size in range(1, 25):
            for _ in range(3):
                bits = tuple([rng.randrange(2) for _ in range(size)])
                for width in (1, 2, 23, 24, 25, 64, 256):
                    self.check(("mask", bits), width, ())

    def test_all_short_masks(self):
        for size in range(1, 5):
            for bits in itertools.product((0, 1), repeat=size):
                for width in range(1, 11):
                    self.check(("mask", bits), width, ())


class ValuesTest(unittest.TestCase):
    def test_random_programs(self):
        rng = seeded(55)
        for width in (1, 2, 5, 16, 64, 256):
            for _ in range(60):
                program = random_program(rng, rng.randrange(3), rng.randint(1, 20))
                words = random_words(rng, program[0], width)
                told = told_values(program, width, words)
                self.assertEqual(outcome(values, program, width, words), repr(told))
                self.assertEqual(outcome(result, program, width, words), repr(told[-1]))

    def test_all_words_of_small_widths(self):
        rng = seeded(56)
        for many in (0, 1, 2):
            for width in (1, 2, 3):
                program = random_program(rng, many, 12)
                for words in itertools.product(range(2 ** width), repeat=many):
                    self.assertEqual(values(program, width, words), told_values(program, width, words))

    def test_the_words_are_no_values(self):
        self.assertEqual(values((2, (("and", 0, 1),)), 4, (12, 10)), (8,))
        self.assertEqual(values((0, (("ones",), ("zero",))), 4, ()), (15, 0))

    def test_the_last_row_is_the_result(self):
        self.assertEqual(result((1, (("not", 0), ("zero",), ("xor", 1, 0))), 4, (5,)), 15)
        self.assertEqual(result((1, (("not", 0), ("twice", 0))), 4, (5,)), 10)

    def test_cut_to_lesser_widths(self):
        rng = seeded(57)
        for many in (0, 1, 2):
            for _ in range(4):
                program = random_program(rng, many, 40)
                words = random_words(rng, many, 256)
                whole = values(program, 256, words)
                for width in list(range(1, 18)) + [63, 64, 65, 128, 200, 255]:
                    cut = tuple([word % 2 ** width for word in words])
                    self.assertEqual(values(program, width, cut), tuple([worth % 2 ** width for worth in whole]))
                    self.assertEqual(result(program, width, cut), whole[-1] % 2 ** width)

    def test_each_instruction_cut_to_each_lesser_width(self):
        rng = seeded(58)
        for word in WORDS:
            row = (word, (1, 0, 0, 1, 1)) if word == "mask" else (word,) + (0, 1)[:1 if word in TWO else 2]
            row = row[:1] if word in ONE else row
            words = random_words(rng, 2, 256)
            whole = result((2, (row,)), 256, words)
            for width in range(1, 256):
                cut = tuple([given % 2 ** width for given in words])
                self.assertEqual(result((2, (row,)), width, cut), whole % 2 ** width)

    def test_chains_of_2000_rows(self):
        for width in (1, 64, 256):
            top = 2 ** width
            a = (top // 3 + 5) % top
            sums = (1, tuple([("plus", k, 0) for k in range(2000)]))
            told = [(k + 2) * a % top for k in range(2000)]
            self.assertEqual(values(sums, width, (a,)), tuple(told))
            falls = (1, tuple([("less", k, 0) for k in range(2000)]))
            self.assertEqual(result(falls, width, (a,)), -1999 * a % top)
            turned = (1, tuple([("not", k) for k in range(2000)]))
            self.assertEqual(result(turned, width, (a,)), a)
            doubled = (1, tuple([("twice", k) for k in range(2000)]))
            self.assertEqual(result(doubled, width, (a,)), 0)
            last = tuple([("twice", k) for k in range(width - 1)])
            if last:
                self.assertEqual(result((1, last), width, (1,)), top // 2)

    def test_mixed_chains_of_2000_rows(self):
        rng = seeded(59)
        for width in (1, 64, 256):
            rows = []
            for k in range(2000):
                word = rng.choice(TWO + THREE)
                rows.append((word, k) if word in TWO else (word, k, rng.randrange(k + 1)))
            words = random_words(rng, 1, width)
            self.assertEqual(values((1, tuple(rows)), width, words), told_values((1, tuple(rows)), width, words))

    def test_6000_rows(self):
        steps = (1, tuple([("minus", k) for k in range(6000)]))
        self.assertEqual(result(steps, 256, (77,)), 77)
        self.assertEqual(len(values(steps, 256, (77,))), 6000)

    def test_documented_programs_at_other_widths(self):
        for width in (1, 2, 8, 64, 256):
            for word in (0, 1, 2 ** width - 1, 2 ** (width - 1)):
                self.assertEqual(result(LOW, width, (word,)), word & -word)
        self.assertEqual(values(MIXED, 5, (3, 6)), (29, 22, 11, 25, 18))


if __name__ == "__main__":
    unittest.main()
