"""machine_error, written, ending."""

import itertools
import unittest

from carryladder.machines import ending, machine_error, written
from tests.helpers import (BLINK, COPY, HUGE, MINUS, ODD, PARITY, PLUS, bits_written, clock, is_whole, letters, outcome,
                           random_machine, random_words, renamed, seeded, told_head)

GOOD = ((0, 0), (0, 1))


def told_error(value):
    """machine_error, by the document's words."""
    if told_head(value, 24) is not None:
        return told_head(value, 24)
    bad = [q for q, row in enumerate(value[1]) if type(row) is not tuple or len(row) != 2 ** value[0]]
    if bad:
        return ("row", bad[0])
    for q, row in enumerate(value[1]):
        for x, pair in enumerate(row):
            fits = type(pair) is tuple and len(pair) == 2
            if not (fits and is_whole(pair[0], len(value[1]) - 1) and is_whole(pair[1], 1)):
                return ("letter", q, x)
    return None


class MachineErrorTest(unittest.TestCase):
    def check(self, value, error):
        self.assertEqual(outcome(machine_error, value), repr(error), repr(value)[:200])

    def test_machines(self):
        rng = seeded(1)
        for many in (0, 1, 2):
            for states in (1, 2, 23, 24):
                self.check(random_machine(rng, many, states), None)
        for machine in (MINUS, PLUS, COPY, PARITY, BLINK):
            self.check(machine, None)

    def test_odd_values_have_no_form(self):
        for value in ODD:
            self.check(value, told_error(value))
        for value in (None, True, 0, HUGE, "", "ab", (), (1,), (1, (GOOD,), 0), [], [1, (GOOD,)], {},
                      {0: 1, 1: (GOOD,)}):
            self.check(value, "form")

    def test_rows_that_have_no_form(self):
        for rows in (None, 1, "a", (), [], [GOOD], {0: GOOD}, (GOOD,) * 25, (None,) * 25, (GOOD,) * 4000):
            self.check((1, rows), "form")

    def test_the_bounds_of_states(self):
        self.check((1, (GOOD,) * 24), None)
        self.check((1, (GOOD,) * 25), "form")
        self.check((1, (GOOD,)), None)
        self.check((1, ()), "form")

    def test_many(self):
        for many in (None, True, False, -1, 3, 4, HUGE, -HUGE, "1", (1,), [1], {}, (), b"1"):
            self.check((many, (GOOD,)), "many")

    def test_form_comes_ahead_of_many_and_many_ahead_of_rows(self):
        self.check((3, []), "form")
        self.check((True, ()), "form")
        self.check((3, ((),)), "many")
        self.check((True, (None,)), "many")
        self.check((False, (((0, 0),),)), "many")

    def test_rows(self):
        for row in (None, 0, True, "ab", [(0, 0), (0, 1)], {0: (0, 0), 1: (0, 1)}, (), GOOD[:1], GOOD + GOOD[:1]):
            self.check((1, (row,)), ("row", 0))
            self.check((1, (GOOD, row, row)), ("row", 1))
        for many in (0, 1, 2):
            for size in range(6):
                self.check((many, (((0, 0),) * size,)), None if size == 2 ** many else ("row", 0))

    def test_rows_come_ahead_of_letters(self):
        self.check((1, ((None, None), GOOD, ())), ("row", 2))
        self.check((1, ((None, None), GOOD)), ("letter", 0, 0))

    def test_letters(self):
        for step in (None, 0, True, "00", [0, 0], {0: 0, 1: 0}, (), (0,), (0, 0, 0), ((0, 0),)):
            self.check((1, ((step, (0, 1)),)), ("letter", 0, 0))
            self.check((1, (((0, 1), step),)), ("letter", 0, 1))

    def test_states_of_letters(self):
        for state in (None, True, False, -1, 2, 3, 24, HUGE, -HUGE, "0", (0,), [0], {}):
            self.check((1, (GOOD, ((1, 0), (state, 1)))), ("letter", 1, 1))

    def test_bits_of_letters(self):
        for bit in (None, True, False, -1, 2, HUGE, -HUGE, "0", (0,), [0], {}):
            self.check((1, (GOOD, ((0, bit), (1, 1)))), ("letter", 1, 0))

    def test_the_first_letter_is_told(self):
        self.check((1, (((0, 0), (0, 2)), ((9, 9), (0, 0)))), ("letter", 0, 1))
        self.check((1, (((9, 0), (0, 2)), ((9, 9), (0, 0)))), ("letter", 0, 0))
        self.check((2, (((0, 0),) * 4, ((0, 0),) * 3 + ((2, 0),))), ("letter", 1, 3))
        self.check((0, (((1, 0),), ((2, 0),))), ("letter", 1, 0))

    def test_spoilt_machines(self):
        rng = seeded(2)
        for _ in range(3000):
            value = random_machine(rng, rng.randrange(3), rng.choice((1, 2, 3, 24)))
            for _ in range(rng.randint(1, 2)):
                value = self.spoil(rng, value)
            self.check(value, told_error(value))

    def spoil(self, rng, value):
        """The value with a part somewhere within it changed."""
        if rng.randrange(4) == 0 or not isinstance(value, tuple) or not value:
            return rng.choice((None, True, False, 0, 1, 2, 3, 23, 24, 25, -1, HUGE, (), [], "a", {}, (0, 0), GOOD,
                               list(value) if isinstance(value, tuple) else [value], (value,)))
        at = rng.randrange(len(value))
        way = rng.randrange(8)
        if way == 0:
            return value[:at] + value[at + 1:]
        if way == 1:
            return value[:at] + (value[at],) + value[at:]
        return value[:at] + (self.spoil(rng, value[at]),) + value[at + 1:]


class WrittenTest(unittest.TestCase):
    def told(self, machine, width, words):
        bits = bits_written(machine, letters(width, words))
        return int("".join([str(bit) for bit in reversed(bits)]), 2)

    def test_all_words_of_small_widths(self):
        rng = seeded(3)
        for many, widths in ((0, range(1, 9)), (1, range(1, 6)), (2, range(1, 4))):
            for _ in range(6):
                machine = random_machine(rng, many, rng.randint(1, 5))
                for width in widths:
                    for words in itertools.product(range(2 ** width), repeat=many):
                        self.assertEqual(written(machine, width, words), self.told(machine, width, words))

    def test_the_width_1(self):
        self.assertEqual([written(MINUS, 1, (word,)) for word in (0, 1)], [0, 1])
        found = [written(PLUS, 1, words) for words in itertools.product((0, 1), repeat=2)]
        self.assertEqual(found, [0, 1, 1, 0])
        self.assertEqual([written(clock((bit,)), 1, ()) for bit in (0, 1)], [0, 1])

    def test_great_widths(self):
        rng = seeded(4)
        for width in (63, 64, 65, 255, 256):
            top = 2 ** width
            for _ in range(5):
                a, b = random_words(rng, 2, width)
                self.assertEqual(written(MINUS, width, (a,)), -a % top)
                self.assertEqual(written(PLUS, width, (a, b)), (a + b) % top)
                self.assertEqual(written(COPY, width, (a,)), a)
            self.assertEqual(written(MINUS, width, (top - 1,)), 1)
            self.assertEqual(written(PLUS, width, (top - 1, 1)), 0)
            self.assertEqual(written(PLUS, width, (0, top - 1)), top - 1)
            self.assertEqual(written(BLINK, width, ()), sum(2 ** place for place in range(1, width, 2)))

    def test_the_words_in_their_places(self):
        second = (2, (((0, 0), (0, 0), (0, 1), (0, 1)),))
        first = (2, (((0, 0), (0, 1), (0, 0), (0, 1)),))
        self.assertEqual(written(first, 8, (201, 54)), 201)
        self.assertEqual(written(second, 8, (201, 54)), 54)

    def test_machines_of_24_states_at_256(self):
        rng = seeded(5)
        for many in (0, 1, 2):
            machine = random_machine(rng, many, 24)
            words = random_words(rng, many, 256)
            self.assertEqual(written(machine, 256, words), self.told(machine, 256, words))

    def test_cut_to_each_lesser_width(self):
        rng = seeded(6)
        for many in (0, 1, 2):
            machine = random_machine(rng, many, 24)
            words = random_words(rng, many, 256)
            whole = written(machine, 256, words)
            for width in range(1, 256):
                part = written(machine, width, tuple([word % 2 ** width for word in words]))
                self.assertEqual(part, whole % 2 ** width)

    def test_an_integer_is_returned(self):
        self.assertIs(type(written(COPY, 1, (1,))), int)


class EndingTest(unittest.TestCase):
    def test_no_letters(self):
        for machine in (MINUS, PLUS, BLINK):
            self.assertEqual(outcome(ending, machine, ()), "0")

    def test_strings_of_4000_letters(self):
        self.assertEqual(ending(clock((0,) * 24), (0,) * 4000), 4000 % 24)
        self.assertEqual(ending(clock((0,) * 23), (0,) * 4000), 4000 % 23)
        self.assertEqual(ending(PARITY, (1,) * 4000), 0)
        self.assertEqual(ending(PARITY, (1,) * 3999 + (0,)), 1)
        self.assertEqual(ending(MINUS, (0,) * 3999 + (1,)), 1)
        self.assertEqual(ending(PLUS, (3,) + (1, 2) * 1999 + (1,)), 1)
        self.assertEqual(ending(PLUS, (3,) + (1, 2) * 1999 + (0,)), 0)

    def test_each_letter_has_its_own_column(self):
        machine = (2, (((0, 0), (1, 0), (2, 0), (3, 0)),) * 4)
        for letter in range(4):
            self.assertEqual(ending(machine, (letter,)), letter)
            self.assertEqual(ending(machine, (3 - letter, letter)), letter)

    def test_a_string_cut_in_two_anywhere(self):
        rng = seeded(7)
        for many in (0, 1, 2):
            machine = random_machine(rng, many, 24)
            string = tuple([rng.randrange(2 ** many) for _ in range(200)])
            whole = ending(machine, string)
            for at in range(len(string) + 1):
                middle = ending(machine, string[:at])
                # The state in the middle and 0 exchange their names: so it is begun with.
                names = list(range(24))
                names[0], names[middle] = names[middle], names[0]
                self.assertEqual(names[ending(renamed(machine, names), string[at:])], whole)

    def test_step_by_step(self):
        rng = seeded(8)
        for many in (0, 1, 2):
            machine = random_machine(rng, many, 7)
            string, state = (), 0
            for _ in range(100):
                letter = rng.randrange(2 ** many)
                string, state = string + (letter,), machine[1][state][letter][0]
                self.assertEqual(ending(machine, string), state)


if __name__ == "__main__":
    unittest.main()
