"""least, alike, parting."""

import itertools
import unittest

from carryladder.errors import Unfit
from carryladder.leastmachines import alike, least, parting
from carryladder.machines import machine_error, written
from tests.helpers import (BLINK, COPY, MINUS, PARITY, PLUS, bits_written, clock, letters, outcome, raises,
                           random_machine, renamed, seeded)


def come_to(machine):
    """The states that strings come to, in the order in which the document numbers them."""
    order = [0]
    for state in order:
        for following, _ in machine[1][state]:
            if following not in order:
                order.append(following)
    return order


def parted(rows, others):
    """The pairs of a row and another one that some string parts, found from the ends."""
    pairs = set()
    many = -1
    while len(pairs) != many:
        many = len(pairs)
        for p, q in itertools.product(range(len(rows)), range(len(others))):
            for (state, bit), (second, sign) in zip(rows[p], others[q]):
                if bit != sign or (state, second) in pairs:
                    pairs.add((p, q))
    return pairs


def parted_by(rows, others, letters_left):
    """For n up to letters_left the pairs that a string of n letters parts at its last one."""
    found = [set()]
    for n in range(1, letters_left + 1):
        pairs = set()
        for p, q in itertools.product(range(len(rows)), range(len(others))):
            for (state, bit), (second, sign) in zip(rows[p], others[q]):
                if (n == 1 and bit != sign) or (state, second) in found[n - 1]:
                    pairs.add((p, q))
        found.append(pairs)
    return found


def first_parting(one, other):
    """parting, found by which pairs can still be parted by so many letters."""
    rows, others = one[1], other[1]
    found = parted_by(rows, others, len(rows) + len(others))
    widths = [n for n, pairs in enumerate(found) if (0, 0) in pairs]
    if not widths:
        return None
    string, p, q = [], 0, 0
    for left in reversed(range(widths[0])):
        for letter, ((state, bit), (second, sign)) in enumerate(zip(rows[p], others[q])):
            if (bit != sign) if left == 0 else (state, second) in found[left]:
                string.append(letter)
                p, q = state, second
                break
    return widths[0], words_told(one[0], string)


def words_told(many, string):
    return tuple([sum(2 ** i for i, letter in enumerate(string) if letter & 2 ** j) for j in range(many)])


def parting_by_all_words(one, other, widths):
    """parting, by all words of these widths; None if there are none that part."""
    for width in widths:
        apart = []
        for words in itertools.product(range(2 ** width), repeat=one[0]):
            string = letters(width, words)
            if bits_written(one, string) != bits_written(other, string):
                apart.append((string, words))
        if apart:
            return width, min(apart)[1]
    return None


def blown_up(rng, machine, states):
    """A machine that writes the same, of so many states, numbered in any order."""
    many, rows = machine
    copies = list(range(len(rows))) + [rng.randrange(len(rows)) for _ in range(states - len(rows))]
    made = []
    for own in copies:
        steps = []
        for state, bit in rows[own]:
            steps.append((rng.choice([k for k, copied in enumerate(copies) if copied == state]), bit))
        made.append(tuple(steps))
    names = [0] + rng.sample(range(1, states), states - 1)
    return renamed((many, tuple(made)), names)


class LeastTest(unittest.TestCase):
    def check(self, machine):
        small = least(machine)
        self.assertIsNone(machine_error(small))
        self.assertEqual(small[0], machine[0])
        self.assertEqual(come_to(small), list(range(len(small[1]))))
        alone = {(p, q) for p in range(len(small[1])) for q in range(len(small[1])) if p != q}
        self.assertEqual(parted(small[1], small[1]), alone)
        self.assertNotIn((0, 0), parted(small[1], machine[1]))
        self.assertEqual(least(small), small)
        return small

    def test_small_machines(self):
        rng = seeded(11)
        sizes = set()
        for _ in range(600):
            machine = random_machine(rng, rng.randrange(3), rng.randint(1, 5))
            sizes.add((len(machine[1]), len(self.check(machine)[1])))
        self.assertGreater(len(sizes), 10)

    def test_all_machines_of_one_word_and_two_states(self):
        steps = list(itertools.product((0, 1), (0, 1)))
        for four in itertools.product(steps, repeat=4):
            self.check((1, (four[:2], four[2:])))

    def test_one_state_is_left(self):
        self.assertEqual(least((1, (((1, 1), (2, 0)), ((2, 1), (0, 0)), ((0, 1), (1, 0))))), (1, (((0, 1), (0, 0)),)))
        self.assertEqual(least(clock((1,) * 24)), clock((1,)))
        self.assertEqual(least((2, (((23, 0),) * 4,) * 24)), (2, (((0, 0),) * 4,)))

    def test_states_that_no_string_comes_to(self):
        lone = MINUS[1] + (((2, 0), (0, 1)), ((3, 1), (2, 1)))
        self.assertEqual(least((1, lone)), MINUS)
        # Here 1 is like 0, but comes to states that 0 does not come to.
        self.assertEqual(least((1, (((0, 0), (0, 1)), ((2, 0), (0, 1)), ((2, 1), (2, 1))))), COPY)

    def test_numbers_in_the_order_of_coming(self):
        # By the letter 1 the state 2 is come to last, by 0 first, and each is told by its bits.
        machine = (1, (((2, 0), (1, 0)), ((1, 1), (3, 0)), ((0, 0), (3, 1)), ((3, 1), (3, 1))))
        told = (1, (((1, 0), (2, 0)), ((0, 0), (3, 1)), ((2, 1), (3, 0)), ((3, 1), (3, 1))))
        self.assertEqual(least(machine), told)

    def test_state_by_state_and_not_as_deep_as_can_be(self):
        machine = (1, (((1, 0), (2, 0)), ((3, 0), (3, 1)), ((2, 1), (2, 0)), ((3, 1), (3, 1))))
        self.assertEqual(least(machine), machine)

    def test_numbered_otherwise(self):
        rng = seeded(12)
        for many in (0, 1, 2):
            for _ in range(20):
                machine = random_machine(rng, many, 8)
                names = [0] + rng.sample(range(1, 8), 7)
                self.assertEqual(least(renamed(machine, names)), least(machine))

    def test_machines_of_24_states(self):
        rng = seeded(13)
        for many in (0, 1, 2):
            for _ in range(4):
                self.check(random_machine(rng, many, 24))
        for states in (1, 3, 9, 23):
            for many in (0, 1, 2):
                small = least(random_machine(rng, many, states))
                self.assertEqual(least(blown_up(rng, small, 24)), small)

    def test_clocks_that_are_told_late(self):
        late = clock((0,) * 23 + (1,))
        self.assertEqual(least(late), late)
        self.assertEqual(least(clock((0, 0, 1) * 8)), clock((0, 0, 1)))
        self.assertEqual(least(clock((0,) * 12 + (1,), 12)), clock((0,) * 12 + (1,), 12))
        self.assertEqual(least(clock((1, 0, 1, 0), 2)), clock((1, 0)))
        self.assertEqual(least(clock((1, 1, 0, 1, 0), 3)), clock((1, 1, 0), 1))

    def test_it_writes_the_same(self):
        rng = seeded(14)
        for many in (0, 1, 2):
            for width in (1, 2, 60, 256):
                machine = random_machine(rng, many, 24)
                words = tuple([rng.randrange(2 ** width) for _ in range(many)])
                self.assertEqual(written(least(machine), width, words), written(machine, width, words))

    def test_kinds_of_what_is_returned(self):
        self.assertEqual(outcome(least, MINUS), repr(MINUS))
        self.assertEqual(outcome(least, PLUS), repr(PLUS))
        self.assertEqual(outcome(least, BLINK), repr(BLINK))


class PartingTest(unittest.TestCase):
    def check(self, one, other):
        told = first_parting(one, other)
        self.assertEqual(outcome(parting, one, other), repr(told))
        self.assertEqual(outcome(parting, other, one), repr(told))
        self.assertEqual(outcome(alike, one, other), repr(told is None))
        self.assertEqual(least(one) == least(other), told is None)
        if told is not None:
            self.check_apart(one, other, *told)
        return told

    def check_apart(self, one, other, width, words):
        """They part for these words, at the last bit alone, and early enough."""
        self.assertLess(width, len(one[1]) + len(other[1]))
        unlike = bits_of(one, width, words) ^ bits_of(other, width, words)
        self.assertEqual(unlike, 2 ** (width - 1))

    def test_all_machines_of_small_size(self):
        steps = list(itertools.product((0, 1), (0, 1)))
        machines = [(1, (four[:2], four[2:])) for four in itertools.product(steps, repeat=4)]
        rng = seeded(15)
        for one in rng.sample(machines, 40):
            for other in rng.sample(machines, 20):
                self.assertEqual(parting(one, other), parting_by_all_words(one, other, range(1, 4)))
                self.check(one, other)

    def test_beside_all_words(self):
        rng = seeded(16)
        for many, widths in ((0, range(1, 8)), (1, range(1, 8)), (2, range(1, 4))):
            for _ in range(60):
                one = random_machine(rng, many, rng.randint(1, 2 if many == 2 else 4))
                other = random_machine(rng, many, rng.randint(1, 2 if many == 2 else 4))
                self.assertEqual(parting(one, other), parting_by_all_words(one, other, widths))

    def test_machines_with_one_step_changed(self):
        rng = seeded(17)
        widths = set()
        for _ in range(400):
            many, rows = random_machine(rng, rng.randrange(3), rng.randint(1, 8))
            q, x = rng.randrange(len(rows)), rng.randrange(2 ** many)
            row = rows[q][:x] + ((rng.randrange(len(rows)), rng.randrange(2)),) + rows[q][x + 1:]
            told = self.check((many, rows), (many, rows[:q] + (row,) + rows[q + 1:]))
            widths.add(None if told is None else told[0])
        self.assertGreater(len(widths), 4)

    def test_alike(self):
        rng = seeded(18)
        for many in (0, 1, 2):
            for _ in range(10):
                small = random_machine(rng, many, 6)
                self.assertIsNone(self.check(blown_up(rng, small, 24), blown_up(rng, small, 24)))

    def test_the_first_string_of_the_least_width(self):
        # Apart by (0, 1) and (1, 0), words 2 and 1: the first string is not the least word.
        one = (1, (((1, 0), (2, 0)), ((1, 0), (1, 0)), ((1, 0), (1, 0))))
        other = (1, (((1, 0), (2, 0)), ((1, 0), (1, 1)), ((1, 1), (1, 0))))
        self.assertEqual(parting(one, other), (2, (2,)))

    def test_two_words_in_their_places(self):
        one = (2, (((0, 0), (0, 0), (0, 0), (0, 0)),))
        for letter, words in ((1, (1, 0)), (2, (0, 1)), (3, (1, 1)), (0, (0, 0))):
            row = tuple([(0, 1 if own == letter else 0) for own in range(4)])
            self.assertEqual(parting(one, (2, (row,))), (1, words))

    def test_parting_late(self):
        # The longest agreement of two periods, 24 and 23, is of 45 places (Fine and Wilf).
        signs = [None] * 45
        for first, bit in ((0, 0), (22, 1)):
            stack = [first]
            while stack:
                at = stack.pop()
                if 0 <= at < 45 and signs[at] is None:
                    signs[at] = bit
                    stack.extend([at + 24, at - 24, at + 23, at - 23])
        self.assertNotIn(None, signs)
        one, other = clock(signs[:24]), clock(signs[:23])
        self.assertEqual(self.check(one, other), (46, ()))
        later = clock([signs[23]] + signs[:23], 1)
        before = clock([signs[23]] + signs[:23])
        self.assertEqual(self.check(before, later), (47, ()))

    def test_parting_late_behind_a_lock(self):
        rng = seeded(19)
        for many in (1, 2):
            key = [rng.randrange(2 ** many) for _ in range(23)]
            shut = []
            for k, right in enumerate(key):
                shut.append(tuple([(k + 1 if letter == right else 0, 0) for letter in range(2 ** many)]))
            one = (many, tuple(shut) + (((23, 0),) * 2 ** many,))
            for last in range(2 ** many):
                row = tuple([(23, 1 if letter == last else 0) for letter in range(2 ** many)])
                told = self.check(one, (many, tuple(shut) + (row,)))
                self.assertEqual(told, (24, words_told(many, key + [last])))

    def test_random_machines_of_24_states(self):
        rng = seeded(20)
        for many in (0, 1, 2):
            for _ in range(3):
                self.check(random_machine(rng, many, 24), random_machine(rng, many, 24))

    def test_no_words(self):
        self.assertEqual(parting(BLINK, clock((0, 1, 0, 1, 0, 0))), (6, ()))
        self.assertTrue(alike(BLINK, clock((0, 1) * 12)))

    def test_itself(self):
        for machine in (MINUS, PLUS, COPY, PARITY, BLINK):
            self.assertEqual(outcome(parting, machine, machine), "None")
            self.assertEqual(outcome(alike, machine, machine), "True")

    def test_other_numbers_of_words(self):
        for one, other in itertools.permutations((BLINK, MINUS, PLUS), 2):
            self.assertEqual(outcome(parting, one, other), raises(Unfit))
            self.assertEqual(outcome(alike, one, other), raises(Unfit))


def bits_of(machine, width, words):
    bits = bits_written(machine, letters(width, words))
    return sum(bit << place for place, bit in enumerate(bits))


if __name__ == "__main__":
    unittest.main()
