"""program_error, book_of, neat, composed."""

import itertools
import unittest

from carryladder.errors import TooMany
from carryladder.programs import book_of, composed, neat, program_error
from carryladder.running import result
from tests.helpers import (HUGE, LOW, MIXED, ODD, ONE, THREE, TWO, is_whole, outcome, raises, random_program,
                           random_words, seeded, told_head)

SIZE = {word: 1 for word in ONE} | {word: 2 for word in TWO + ("mask",)} | {word: 3 for word in THREE}


def told_error(value):
    """program_error, by the document's words."""
    if told_head(value, 6000) is not None:
        return told_head(value, 6000)
    for k, row in enumerate(value[1]):
        words = [word for word in SIZE if type(row) is tuple and row and type(row[0]) is str and row[0] == word]
        if not words or len(row) != SIZE[words[0]]:
            return ("row", k)
        if words == ["mask"]:
            bits = row[1]
            if type(bits) is not tuple or not 1 <= len(bits) <= 24 or not all(is_whole(bit, 1) for bit in bits):
                return ("bits", k)
            continue
        for i in range(len(row) - 1):
            if not is_whole(row[i + 1], value[0] + k - 1):
                return ("operand", k, i)
    return None


class ProgramErrorTest(unittest.TestCase):
    def check(self, value, error):
        self.assertEqual(outcome(program_error, value), repr(error), repr(value)[:200])

    def test_programs(self):
        rng = seeded(41)
        for many in (0, 1, 2):
            for length in (1, 2, 50, 6000):
                self.check(random_program(rng, many, length), None)
        self.check(LOW, None)
        self.check(MIXED, None)

    def test_each_instruction(self):
        for word in ONE:
            self.check((0, ((word,),)), None)
        for word in TWO:
            self.check((1, ((word, 0),)), None)
        for word in THREE:
            self.check((2, ((word, 0, 1),)), None)
            self.check((1, ((word, 0, 0),)), None)
        self.check((0, (("mask", (1,)),)), None)

    def test_form(self):
        for value in ODD:
            self.check(value, told_error(value))
        row = ("ones",)
        for value in ([1, (row,)], (1, (row,), 0), (1,), ((row,), ), {0: 1, 1: (row,)}, (1, [row]), (1, ()),
                      (1, "ones"), (1, {0: row}), (1, None), (1, 1)):
            self.check(value, "form")

    def test_the_bounds_of_rows(self):
        for words in (0, 1, 2):
            self.check((words, (("ones",),) * 6000), None)
            self.check((words, (("ones",),) * 6001), "form")
        self.check((1, (None,) * 6001), "form")
        self.check((1, (None,) * 6000), ("row", 0))
        self.check((1, (("not", 0),) * 5999 + (("not", 6000),)), ("operand", 5999, 0))
        self.check((1, (("not", 0),) * 5999 + (("not", 5999),)), None)

    def test_many(self):
        for many in (None, True, False, -1, 3, HUGE, -HUGE, "1", (1,), [1], {}, ()):
            self.check((many, (("ones",),)), "many")

    def test_form_ahead_of_many_ahead_of_rows(self):
        self.check((3, ()), "form")
        self.check((True, [("ones",)]), "form")
        self.check((3, (None,)), "many")

    def test_rows(self):
        for row in (None, True, 0, HUGE, "ones", "", (), (None,), (0,), (True,), (["ones"],), (("ones",),), ({},),
                    ["ones"], ["not", 0], {"ones": 0}, {0: "ones"}, ("one",), ("Ones",), ("ones ",), ("",),
                    ("nor", 0, 0), ("nop",), (b"ones",), ([],), ((),), ([[]], 0), ({"a": 1}, 0, 0), ((1, []), 0)):
            self.check((1, (row,)), ("row", 0))
            self.check((2, (("not", 0), row, row)), ("row", 1))

    def test_row_sizes(self):
        for word, size in SIZE.items():
            for items in range(1, 6):
                row = (word,) + (((1,),) if word == "mask" else (0,)) * (items - 1)
                self.check((1, (row,)), None if items == size else ("row", 0))

    def test_operands(self):
        for operand in (None, True, False, -1, -2, 2, 3, HUGE, -HUGE, "0", "v0", (0,), [0], {}, ()):
            for word in TWO:
                self.check((1, (("ones",), (word, operand))), ("operand", 1, 0))
            for word in THREE:
                self.check((1, (("ones",), (word, operand, 1))), ("operand", 1, 0))
                self.check((1, (("ones",), (word, 1, operand))), ("operand", 1, 1))
                self.check((1, (("ones",), (word, operand, operand))), ("operand", 1, 0))

    def test_how_far_operands_go(self):
        for many in (0, 1, 2):
            for k in range(4):
                for operand in range(8):
                    rows = (("ones",),) * k + (("not", operand),)
                    self.check((many, rows), None if operand < many + k else ("operand", k, 0))

    def test_bits(self):
        for bits in (None, True, 0, 1, "01", (), [0, 1], [], {0: 1}, {}, (0,) * 25, (2,), (-1,), (True,), (False,),
                     (None,), ("0",), (0, 1, 2), (0, (1,)), ((0, 1),), (HUGE,), (0, True), (1,) * 23 + (2,),
                     (0,) * 4000):
            self.check((1, (("mask", bits),)), ("bits", 0))
            self.check((1, (("ones",), ("mask", bits), None)), ("bits", 1))

    def test_the_bounds_of_bits(self):
        for size in range(27):
            self.check((0, (("mask", (1,) * size),)), None if 1 <= size <= 24 else ("bits", 0))

    def test_each_row_whole_ahead_of_the_next_one(self):
        self.check((1, (("not", 1), None)), ("operand", 0, 0))
        self.check((1, (("mask", ()), ("not", 9))), ("bits", 0))
        self.check((1, (("not", 9), ("mask", ()))), ("operand", 0, 0))
        self.check((1, (("not", 0), ("mask", ()), None)), ("bits", 1))
        self.check((1, (("not", 0), ("less", 0, 2), ("mask", ()))), ("operand", 1, 1))

    def test_spoilt_programs(self):
        rng = seeded(42)
        for _ in range(4000):
            value = random_program(rng, rng.randrange(3), rng.randint(1, 4))
            for _ in range(rng.randint(1, 2)):
                value = self.spoil(rng, value)
            self.check(value, told_error(value))

    def spoil(self, rng, value):
        """The value with a part somewhere within it changed."""
        if rng.randrange(5) == 0 or not isinstance(value, tuple) or not value:
            words = ("ones", "not", "and", "mask", "v0")
            return rng.choice((None, True, False, 0, 1, 2, 3, 4, 5, -1, HUGE, (), [], {}, ("not", 0), ("and", 0, 0),
                               rng.choice(words), list(value) if isinstance(value, tuple) else [value]))
        at = rng.randrange(len(value))
        way = rng.randrange(8)
        if way == 0:
            return value[:at] + value[at + 1:]
        if way == 1:
            return value[:at] + (value[at],) + value[at:]
        return value[:at] + (self.spoil(rng, value[at]),) + value[at + 1:]


class BookOfTest(unittest.TestCase):
    PLAIN = {"zero", "ones", "not", "and", "or", "xor"}
    SUMS = PLAIN | {"twice", "minus", "plus", "less"}
    BOOKS = (("plain", PLAIN), ("prefix", PLAIN | {"prefix"}), ("twice", PLAIN | {"twice"}),
             ("minus", PLAIN | {"minus"}), ("sums", SUMS), ("masks", SUMS | {"mask"}), ("turns", SUMS | {"prefix"}))

    def row(self, word):
        if word == "mask":
            return (word, (0, 1))
        return (word,) + (0,) * (SIZE[word] - 1)

    def test_all_sets_of_instructions(self):
        for count in range(1, 13):
            for words in itertools.combinations(SIZE, count):
                told = [book for book, own in self.BOOKS if set(words) <= own]
                program = (1, tuple([self.row(word) for word in words]))
                self.assertEqual(book_of(program), told[0] if told else None)
                self.assertEqual(book_of(program) is None, "mask" in words and "prefix" in words)

    def test_each_instruction_alone(self):
        books = {word: book_of((1, (self.row(word),))) for word in SIZE}
        told = {word: "plain" for word in self.PLAIN}
        told |= {"prefix": "prefix", "twice": "twice", "minus": "minus", "plus": "sums", "less": "sums",
                 "mask": "masks"}
        self.assertEqual(books, told)

    def test_rows_that_are_not_used_count(self):
        self.assertEqual(book_of((1, (("minus", 0), ("prefix", 0), ("not", 0)))), "turns")
        self.assertEqual(book_of((1, (("mask", (1,)), ("prefix", 0), ("not", 0)))), None)

    def test_the_order_of_rows_does_not_count(self):
        rng = seeded(43)
        rows = [self.row(word) for word in ("twice", "zero", "mask", "and", "less")]
        for _ in range(20):
            rng.shuffle(rows)
            self.assertEqual(book_of((1, tuple(rows))), "masks")

    def test_6000_rows(self):
        self.assertEqual(book_of((1, (("not", 0),) * 5999 + (("twice", 0),))), "twice")
        self.assertEqual(book_of((1, (("not", 0),) * 5998 + (("mask", (0,)), ("prefix", 0)))), None)


def operands(row):
    return [] if row[0] == "mask" else list(row[1:])


def told_neat(program):
    """neat, by what the last row uses, gone through one after another."""
    many, rows = program
    used, ahead = set(), [len(rows) - 1]
    while ahead:
        k = ahead.pop()
        if k not in used:
            used.add(k)
            ahead.extend([operand - many for operand in operands(rows[k]) if operand >= many])
    names = {j: j for j in range(many)}
    names |= {many + k: many + at for at, k in enumerate(sorted(used))}
    kept = [rows[k] for k in sorted(used)]
    return (many, tuple([row if row[0] == "mask" else (row[0],) + tuple([names[a] for a in row[1:]]) for row in kept]))


class NeatTest(unittest.TestCase):
    def test_random_programs(self):
        rng = seeded(44)
        shorter = 0
        for _ in range(500):
            program = random_program(rng, rng.randrange(3), rng.randint(1, 30))
            tidy = neat(program)
            self.assertEqual(outcome(neat, program), repr(told_neat(program)))
            self.assertIsNone(program_error(tidy))
            self.assertEqual(neat(tidy), tidy)
            shorter += len(tidy[1]) < len(program[1])
            for width in (1, 7, 64):
                words = random_words(rng, program[0], width)
                self.assertEqual(result(tidy, width, words), result(program, width, words))
        self.assertGreater(shorter, 100)

    def test_what_is_neat_stays(self):
        for program in (LOW, MIXED, (0, (("ones",),)), (2, (("and", 0, 0),)), (1, (("mask", (0, 1)),))):
            self.assertEqual(outcome(neat, program), repr(program))

    def test_only_the_last_row(self):
        self.assertEqual(neat((1, (("not", 0), ("minus", 1), ("ones",)))), (1, (("ones",),)))
        self.assertEqual(neat((1, (("not", 0), ("minus", 1), ("mask", (1, 0))))), (1, (("mask", (1, 0)),)))
        self.assertEqual(neat((2, (("not", 0), ("not", 1)))), (2, (("not", 1),)))

    def test_rows_used_by_one_that_is_not_used(self):
        self.assertEqual(neat((1, (("ones",), ("not", 1), ("plus", 1, 2), ("twice", 0)))), (1, (("twice", 0),)))

    def test_equal_rows_stay_apart(self):
        program = (1, (("not", 0), ("not", 0), ("and", 1, 2)))
        self.assertEqual(neat(program), program)

    def test_bits_are_no_operands(self):
        program = (1, (("not", 0), ("mask", (1, 1, 0)), ("xor", 0, 2)))
        self.assertEqual(neat(program), (1, (("mask", (1, 1, 0)), ("xor", 0, 1))))

    def test_long_chains(self):
        chain = tuple([("not", k) for k in range(6000)])
        self.assertEqual(neat((1, chain)), (1, chain))
        self.assertEqual(neat((1, chain[:-1] + (("twice", 0),))), (1, (("twice", 0),)))
        both = [("not", 0), ("minus", 0)] + [("not" if k % 2 == 0 else "minus", k - 1) for k in range(2, 6000)]
        half = (("minus", 0),) + tuple([("minus", k) for k in range(1, 3000)])
        self.assertEqual(neat((1, tuple(both))), (1, half))
        self.assertEqual(neat((1, tuple(both[:-1]))), (1, tuple([("not", k) for k in range(3000)])))


class ComposedTest(unittest.TestCase):
    def check(self, rng, program, parts):
        whole = composed(program, parts)
        self.assertEqual(whole[0], parts[0][0] if parts else 0)
        self.assertEqual(len(whole[1]), len(program[1]) + sum(len(part[1]) for part in parts))
        self.assertIsNone(program_error(whole))
        for width in (1, 5, 64):
            words = random_words(rng, whole[0], width)
            given = tuple([result(part, width, words) for part in parts])
            self.assertEqual(result(whole, width, words), result(program, width, given))
        return whole

    def test_random_programs(self):
        rng = seeded(45)
        for _ in range(400):
            program = random_program(rng, rng.randrange(3), rng.randint(1, 8))
            many = rng.randrange(3)
            parts = tuple([random_program(rng, many, rng.randint(1, 8)) for _ in range(program[0])])
            whole = self.check(rng, program, parts)
            told = [row[0] for part in parts for row in part[1]] + [row[0] for row in program[1]]
            self.assertEqual([row[0] for row in whole[1]], told)

    def test_numbers(self):
        less = (2, (("less", 0, 1), ("not", 2), ("xor", 1, 3)))
        one, other = (2, (("twice", 1), ("and", 0, 2))), (2, (("or", 0, 1),))
        told = (2, (("twice", 1), ("and", 0, 2), ("or", 0, 1), ("less", 3, 4), ("not", 5), ("xor", 4, 6)))
        self.assertEqual(outcome(composed, less, (one, other)), repr(told))

    def test_other_numbers_of_words(self):
        rng = seeded(46)
        self.assertEqual(composed((1, (("not", 0),)), ((0, (("ones",),)),)), (0, (("ones",), ("not", 0))))
        self.assertEqual(composed((1, (("not", 0),)), (MIXED,))[0], 2)
        self.assertEqual(self.check(rng, (2, (("plus", 0, 1),)), (LOW, LOW))[0], 1)

    def test_no_words(self):
        program = (0, (("ones",), ("mask", (0, 1)), ("xor", 0, 1)))
        self.assertEqual(outcome(composed, program, ()), repr(program))

    def test_a_part_used_twice(self):
        rng = seeded(47)
        told = (1, (("minus", 0), ("and", 0, 1), ("minus", 0), ("and", 0, 3), ("plus", 2, 4)))
        self.assertEqual(self.check(rng, (2, (("plus", 0, 1),)), (LOW, LOW)), told)
        self.assertEqual(composed((1, (("plus", 0, 0),)), (LOW,))[1][2], ("plus", 2, 2))

    def test_the_parts_in_their_places(self):
        zero, ones = (0, (("zero",),)), (0, (("ones",),))
        less = (2, (("less", 0, 1),))
        self.assertEqual(result(composed(less, (ones, zero)), 8, ()), 255)
        self.assertEqual(result(composed(less, (zero, ones)), 8, ()), 1)

    def test_a_part_that_no_row_uses(self):
        told = (2, (("not", 1), ("and", 0, 2), ("ones",)))
        self.assertEqual(composed((1, (("ones",),)), ((2, (("not", 1), ("and", 0, 2))),)), told)

    def test_masks_keep_their_bits(self):
        program = (1, (("mask", (0, 1)), ("xor", 0, 1)))
        part = (1, (("not", 0), ("mask", (1, 0, 1))))
        told = (1, (("not", 0), ("mask", (1, 0, 1)), ("mask", (0, 1)), ("xor", 2, 3)))
        self.assertEqual(composed(program, (part,)), told)

    def test_6000_rows(self):
        whole = composed((1, (("not", 0),) * 5998), (LOW,))
        self.assertEqual(len(whole[1]), 6000)
        self.assertEqual(whole[1][-1], ("not", 2))
        two = (2, (("and", 0, 1),) * 2000)
        half = (1, (("not", 0),) * 2000)
        self.assertEqual(composed(two, (half, half))[1][-1], ("and", 2000, 4000))
        self.assertEqual(len(composed((0, (("ones",),) * 6000), ())[1]), 6000)

    def test_6001_rows(self):
        told = raises(TooMany, limit=6000)
        self.assertEqual(outcome(composed, (1, (("not", 0),) * 5999), (LOW,)), told)
        self.assertEqual(outcome(composed, (1, (("not", 0),)), ((1, (("not", 0),) * 6000),)), told)
        half = (1, (("not", 0),) * 2000)
        self.assertEqual(outcome(composed, (2, (("and", 0, 1),) * 2001), (half, half)), told)
        long = (2, (("and", 0, 1),) * 6000)
        self.assertEqual(outcome(composed, long, (long, long)), told)


if __name__ == "__main__":
    unittest.main()
