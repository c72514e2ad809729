"""table_error, table_of, hangs_above, at_width."""

import itertools
import time
import unittest

from carryladder.errors import BadTable, Unfit
from carryladder.onewidth import at_width, hangs_above, table_error, table_of
from carryladder.programs import program_error
from carryladder.running import result
from tests.helpers import LOW, MIXED, ODD, is_whole, outcome, raises, random_program, seeded

UNFIT = raises(Unfit)
SIZES = [(1, width) for width in range(1, 9)] + [(2, width) for width in range(1, 5)]
MINUS_WORDS = {"zero", "ones", "not", "and", "or", "xor", "minus"}
EACH = (("zero",), ("ones",), ("not", 0), ("and", 0, 1), ("or", 0, 1), ("xor", 0, 1), ("twice", 0), ("minus", 0),
        ("plus", 0, 1), ("less", 0, 1), ("mask", (0, 1, 1)), ("prefix", 0))


def told_error(value):
    """table_error, by what [G2] says."""
    if type(value) is not tuple or len(value) != 3:
        return "form"
    many, width, results = value
    if not is_whole(many, 2) or many == 0:
        return "many"
    if not is_whole(width, 8) or width == 0 or many * width > 8:
        return "width"
    if type(results) is not tuple or len(results) != 2 ** (many * width):
        return "results"
    for place, word in enumerate(results):
        if not is_whole(word, 2 ** width - 1):
            return ("result", place)
    return None


def places_of(many, width):
    """All pairs of the place of a result and the tuple of its words."""
    if many == 1:
        return [(word, (word,)) for word in range(2 ** width)]
    return [(one + other * 2 ** width, (one, other)) for other in range(2 ** width) for one in range(2 ** width)]


def alike_up_to(words, others, i):
    return all(one % 2 ** (i + 1) == other % 2 ** (i + 1) for one, other in zip(words, others))


def hangs_told(table):
    """Whether some bit hangs on one above it, by a look at all pairs of words."""
    many, width, results = table
    told = places_of(many, width)
    for (place, words), (other, others) in itertools.combinations(told, 2):
        for i in range(width):
            if alike_up_to(words, others, i) and (results[place] ^ results[other]) >> i & 1:
                return True
    return False


def drawn_below(rng, many, width):
    """A table by which each bit hangs on the bits at and below it alone."""
    choices = [{} for _ in range(width)]
    results = []
    for _, words in places_of(many, width):
        word = 0
        for i, told in enumerate(choices):
            key = tuple([own % 2 ** (i + 1) for own in words])
            word += told.setdefault(key, rng.randrange(2)) << i
        results.append(word)
    return (many, width, tuple(results))


def drawn(rng, many, width):
    return (many, width, tuple([rng.randrange(2 ** width) for _ in range(2 ** (many * width))]))


class TableErrorTest(unittest.TestCase):
    def check(self, value):
        self.assertEqual(repr(table_error(value)), repr(told_error(value)), value)
        return table_error(value)

    def test_tables(self):
        rng = seeded(501)
        for many, width in SIZES:
            for _ in range(5):
                self.assertIsNone(self.check(drawn(rng, many, width)))

    def test_values_of_all_kinds(self):
        for value in ODD:
            self.assertEqual(self.check(value), "form" if value != (1, 2, 3) else "results")
            self.check((value, 1, (0, 1)))
            self.check((1, value, (0, 1)))
            self.check((1, 1, value))
            self.check((1, 1, (value, 1)))
            self.check((1, 1, (0, value)))
            self.check((2, 1, (0, 1, value, value)))

    def test_numbers_of_words_and_widths(self):
        for many in (-1, 0, 1, 2, 3, True, "1"):
            for width in (-1, 0, 1, 2, 4, 5, 8, 9, True, None, "1"):
                size = 2 ** (many * width) if told_error((many, width, ())) == "results" else 2
                self.check((many, width, (0,) * size))
        self.assertEqual(self.check((3, 0, ())), "many")
        self.assertEqual(self.check((2, 5, ())), "width")
        self.assertEqual(self.check((1, 9, (0,) * 512)), "width")
        self.assertEqual(self.check((1, 10 ** 399, ())), "width")

    def test_results(self):
        for size in (0, 3, 5, 8):
            self.assertEqual(self.check((1, 2, (0,) * size)), "results")
        self.assertEqual(self.check((1, 2, [0] * 4)), "results")
        self.assertEqual(self.check((1, 2, (4,) * 5)), "results")
        for place in range(4):
            for bad in (4, -1, True, False, None, "0", 10 ** 399, (0,), 1.0):
                results = tuple([bad if at == place else 0 for at in range(4)])
                self.assertEqual(self.check((1, 2, results)), ("result", place))
                later = tuple([bad if at >= place else 3 for at in range(4)])
                self.assertEqual(self.check((1, 2, later)), ("result", place))

    def test_what_comes_first(self):
        self.assertEqual(self.check([1, 1, (0, 1)]), "form")
        self.assertEqual(self.check((1, 1, (0, 1), 0)), "form")
        self.assertEqual(self.check((0, 0, None)), "many")
        self.assertEqual(self.check((1, 0, None)), "width")
        self.assertEqual(self.check((1, 1, None)), "results")


class TableOfTest(unittest.TestCase):
    def check(self, program, width):
        many = program[0]
        results = tuple([result(program, width, words) for _, words in places_of(many, width)])
        self.assertEqual(repr(table_of(program, width)), repr((many, width, results)))
        self.assertIsNone(table_error(table_of(program, width)))

    def test_each_instruction(self):
        for row in EACH:
            for many, width in SIZES:
                if many == 2 or len(row) < 3:
                    self.check((many, (row,)), width)

    def test_drawn_programs(self):
        rng = seeded(511)
        for many, width in SIZES:
            for _ in range(8):
                self.check(random_program(rng, many, rng.randint(1, 9)), width)

    def test_each_place(self):
        for many, width in SIZES:
            for j in range(many):
                program = (many, (("and", j, j),))
                told = table_of(program, width)[2]
                self.assertEqual(told, tuple([words[j] for _, words in sorted(places_of(many, width))]))

    def test_programs_of_no_words(self):
        for width in (1, 8, 0, 9, None, True):
            self.assertEqual(outcome(table_of, (0, (("ones",),)), width), UNFIT)

    def test_widths(self):
        for width in ODD + (9, 10, 257, -1, "1", 1.0):
            fits = is_whole(width, 8) and width > 0
            self.assertEqual(outcome(table_of, LOW, width) == UNFIT, not fits, width)
            fits = is_whole(width, 4) and width > 0
            self.assertEqual(outcome(table_of, MIXED, width) == UNFIT, not fits, width)
        self.assertEqual(outcome(table_of, MIXED, 5), UNFIT)
        self.assertEqual(outcome(table_of, LOW, 9), UNFIT)

    def test_long_programs(self):
        program = random_program(seeded(512), 1, 6000)
        start = time.perf_counter()
        self.check(program, 8)
        self.assertLess(time.perf_counter() - start, 60)


class HangsAboveTest(unittest.TestCase):
    def check(self, table):
        found = hangs_above(table)
        self.assertEqual(found is not None, hangs_told(table), table)
        if found is not None:
            many, width, results = table
            i, words, others = found
            self.assertTrue(is_whole(i, width - 1))
            told = {own: results[place] for place, own in places_of(many, width)}
            self.assertTrue(alike_up_to(words, others, i))
            self.assertEqual((told[words] ^ told[others]) >> i & 1, 1)
        return found

    def test_all_small_tables(self):
        for results in itertools.product(range(2), repeat=2):
            self.assertIsNone(self.check((1, 1, results)))
        for results in itertools.product(range(2), repeat=4):
            self.assertIsNone(self.check((2, 1, results)))
        fitting = [results for results in itertools.product(range(4), repeat=4) if self.check((1, 2, results)) is None]
        self.assertEqual(len(fitting), 2 ** (2 + 4))

    def test_drawn_tables(self):
        rng = seeded(521)
        for many, width in SIZES:
            for _ in range(3):
                self.assertIsNone(self.check(drawn_below(rng, many, width)))
                self.check(drawn(rng, many, width))
                table = drawn_below(rng, many, width)
                results = list(table[2])
                results[rng.randrange(len(results))] ^= 1 << rng.randrange(width)
                self.check((many, width, tuple(results)))

    def test_one_bit_changed(self):
        # Each bit but the last hangs on one above it if it is turned for one tuple of words alone.
        for place in range(8):
            for i in range(3):
                results = tuple([word ^ (1 << i if word == place else 0) for word in range(8)])
                self.assertEqual(self.check((1, 3, results)) is None, i == 2)

    def test_errors(self):
        rng = seeded(522)
        for call in (hangs_above, at_width):
            for value in ODD + ((3, 1, ()), (1, 9, ()), (1, 1, (0,)), (1, 1, (0, 2)), (1, 1, (True, 0))):
                self.assertEqual(outcome(call, value), raises(BadTable, error=told_error(value)), value)
            self.assertFalse(outcome(call, drawn_below(rng, 1, 3)).startswith("raises"))

    def test_programs_hang_on_nothing_above(self):
        rng = seeded(523)
        for many, width in SIZES:
            for row in EACH:
                if many == 2 or len(row) < 3:
                    self.assertIsNone(hangs_above(table_of((many, (row,)), width)))
            for _ in range(8):
                self.assertIsNone(hangs_above(table_of(random_program(rng, many, rng.randint(1, 12)), width)))


class AtWidthTest(unittest.TestCase):
    def check(self, table):
        program = at_width(table)
        self.assertIsNone(program_error(program))
        self.assertEqual(program[0], table[0])
        self.assertLessEqual({row[0] for row in program[1]}, MINUS_WORDS)
        for place, words in places_of(table[0], table[1]):
            self.assertEqual(result(program, table[1], words), table[2][place], table)
        self.assertEqual(table_of(program, table[1]), table)
        return program

    def test_all_small_tables(self):
        programs = []
        for results in itertools.product(range(2), repeat=2):
            programs.append(self.check((1, 1, results)))
        for results in itertools.product(range(4), repeat=4):
            if not hangs_told((1, 2, results)):
                programs.append(self.check((1, 2, results)))
        self.assertEqual(len(programs), 4 + 64)
        for results in itertools.product(range(2), repeat=4):
            self.check((2, 1, results))

    def test_drawn_tables(self):
        rng = seeded(531)
        start = time.perf_counter()
        for many, width in SIZES:
            for _ in range(6):
                self.check(drawn_below(rng, many, width))
        self.assertLess(time.perf_counter() - start, 60)

    def test_tables_of_programs(self):
        rng = seeded(532)
        for many, width in SIZES:
            for row in EACH:
                if many == 2 or len(row) < 3:
                    self.check(table_of((many, (row,)), width))
            for _ in range(3):
                self.check(table_of(random_program(rng, many, rng.randint(1, 9)), width))

    def test_known_tables(self):
        for width in range(1, 9):
            ones = 2 ** width - 1
            self.check((1, width, tuple([word * word & ones for word in range(ones + 1)])))
            self.check((1, width, (0,) * (ones + 1)))
            self.check((1, width, (ones,) * (ones + 1)))
            self.check((1, width, tuple(range(ones + 1))))
        for width in range(1, 5):
            results = [words[0] * words[1] % 2 ** width for _, words in places_of(2, width)]
            self.check((2, width, tuple(results)))

    def test_unfit(self):
        rng = seeded(533)
        for table in ((1, 2, (0, 0, 1, 1)), (1, 2, (0, 1, 3, 3)), (2, 2, (1,) + (0,) * 15)):
            self.assertEqual(outcome(at_width, table), UNFIT)
        for many, width in SIZES:
            for _ in range(4):
                table = drawn(rng, many, width)
                self.assertEqual(outcome(at_width, table) == UNFIT, hangs_told(table))

    def test_bad_tables_ahead_of_unfit(self):
        self.assertEqual(outcome(at_width, (1, 2, (0, 0, 1, 4))), raises(BadTable, error=("result", 3)))
        self.assertEqual(outcome(at_width, (1, 2, (0, 0, 1, 1, 1))), raises(BadTable, error="results"))


if __name__ == "__main__":
    unittest.main()
