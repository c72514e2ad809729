"""paper_error."""

import itertools
import unittest

from carryladder.machines import machine_error
from carryladder.paperjudge import paper_error
from carryladder.papers import paper
from tests.helpers import (BLINK, COPY, HUGE, MINUS, ODD, PARITY, PLUS, clock, outcome, random_machine, seeded)
from tests.rungs_told import BOOKS, ITEMS, PAPERS, told_error
from tests.test_rungs import quotient

THIRD = quotient(3)
SWEPT = (MINUS, PLUS, COPY, PARITY, BLINK, THIRD, quotient(5), clock((0, 0, 1)), clock((1, 0, 0, 0), 3))


def some_paper(rng, small, word):
    """A value with the shape of a paper of this word, its items mostly right."""
    top, letters = len(small[1]), 2 ** small[0]
    length = rng.randint(1, 4)
    items = []
    for kind in ITEMS[word]:
        if kind == "q":
            items.append(rng.randrange(top))
        elif kind == "x":
            items.append(rng.randrange(letters))
        else:
            if rng.randrange(8) == 0:
                length = rng.randint(1, 4)
            items.append(tuple([rng.randrange(letters) for _ in range(length)]))
    if ITEMS[word][:2] == "qq":
        items[:2] = sorted(items[:2])
    return (word,) + tuple(items)


def changed(rng, value):
    """The paper with an item, or a letter of an item, another one."""
    at = rng.randrange(len(value) + 1)
    odd = rng.choice(ODD + (-1, 3, 4, 24, True, False, (0, True), (0, 4), [0], [0, 1], (0,) * 4001, ((0,),), "0", HUGE))
    if at == len(value):
        return value + (odd,) if rng.randrange(2) else value[:-1]
    item = value[at]
    if isinstance(item, tuple) and rng.randrange(2):
        odd = item[:-1] + (odd,) if rng.randrange(2) else list(item)
    return value[:at] + (odd,) + value[at + 1:]


class PaperErrorTest(unittest.TestCase):
    def check(self, machine, book, value):
        told = told_error(machine, book, value)
        self.assertEqual(outcome(paper_error, machine, book, value), repr(told), (machine, book, value))
        return told

    def test_drawn_papers(self):
        rng = seeded(331)
        told = set()
        for machine in SWEPT:
            small = (machine[0], machine[1])
            for book in BOOKS:
                for word in PAPERS[book]:
                    for _ in range(60):
                        value = some_paper(rng, small, word)
                        told.add((word, self.check(machine, book, value)))
                        told.add((word, self.check(machine, book, changed(rng, value))))
        for word in ITEMS:
            for error in (None, "form", "state", "leads") if word != "two" else (None, "form", "state"):
                self.assertIn((word, error), told)
            if word != "two":
                self.assertIn((word, "string"), told)

    def test_random_machines(self):
        rng = seeded(332)
        for _ in range(60):
            machine = random_machine(rng, rng.randrange(3), rng.randint(1, 5))
            self.assertIsNone(machine_error(machine))
            for book in BOOKS:
                for word in PAPERS[book]:
                    for _ in range(6):
                        value = some_paper(rng, machine, word)
                        self.check(machine, book, value)
                        self.check(machine, book, changed(rng, value))

    def test_values_of_all_kinds(self):
        for book in BOOKS:
            for machine in (COPY, THIRD):
                for value in ODD + (("two",), "two", ["two", 1], ("Two", 1), ("two ", 1), (b"two", 1), (None, 1)):
                    self.assertEqual(self.check(machine, book, value), "form")
                for first in ((), [], {}, 0, True, None, ("ring",), ["ring"], HUGE):
                    self.assertEqual(self.check(machine, book, (first, 0, (1,))), "form")

    def test_words_of_other_books(self):
        rng = seeded(333)
        for book in BOOKS:
            for word in ITEMS:
                value = some_paper(rng, THIRD, word)
                self.assertEqual(self.check(THIRD, book, value) == "form", word not in PAPERS[book])

    def test_an_item_more_or_less(self):
        good = {"two": ("two", 1), "odd": ("odd", 0, (0, 1)), "merge": ("merge", 0, 1, 0), "ring": ("ring", 1, (0,)),
                "both": ("both", 0, 1, (0, 0)), "back": ("back", 0, (1,), (1,)), "even": ("even", 0, (0, 1), (0, 0))}
        for book in BOOKS:
            for word in PAPERS[book]:
                value = good[word]
                self.assertEqual(self.check(THIRD, book, value), "leads" if word == "merge" else None)
                for longer in (value + (0,), value + ((0,),), value + (None,), value[:-1], value[:1], value[1:], ()):
                    self.assertEqual(self.check(THIRD, book, longer), "form")
                self.assertEqual(self.check(THIRD, book, list(value)), "form")

    def test_states(self):
        for odd in (-1, 3, True, False, None, (0,), [1], "1", HUGE, -HUGE):
            self.assertEqual(self.check(THIRD, "sums", ("ring", odd, (0,))), "state")
            self.assertEqual(self.check(THIRD, "twice", ("both", 0, odd, (0, 0))), "state")
            self.assertEqual(self.check(THIRD, "twice", ("both", odd, 2, (0, 0))), "state")
            self.assertEqual(self.check(THIRD, "prefix", ("merge", odd, 2, 0)), "state")
            self.assertEqual(self.check(THIRD, "plain", ("two", odd)), "state")
        for p, q in itertools.product(range(3), repeat=2):
            for book, value in (("twice", ("both", p, q, (0, 0))), ("prefix", ("merge", p, q, 0))):
                self.assertEqual(self.check(THIRD, book, value) == "state", p >= q)
        self.assertEqual([self.check(THIRD, "plain", ("two", q)) for q in range(4)], ["state", None, None, "state"])

    def test_the_states_of_the_least_machine(self):
        twofold = (1, PARITY[1] + PARITY[1])
        for q in range(5):
            told = None if q < 2 else "state"
            self.assertEqual(self.check(twofold, "sums", ("ring", q, (1,))), told)
            self.assertEqual(self.check(twofold, "plain", ("two", q)), "state" if q == 0 else told)
        lone = (1, (((0, 0), (2, 1)), ((1, 0), (1, 0)), ((2, 1), (2, 0))))
        self.assertIsNone(self.check(lone, "prefix", ("merge", 0, 1, 1)))
        self.assertEqual(self.check(lone, "prefix", ("merge", 0, 2, 1)), "state")

    def test_strings(self):
        longest = (0,) * 3999 + (1,)
        self.assertEqual(self.check(PARITY, "sums", ("ring", 0, longest)), None)
        self.assertEqual(self.check(PARITY, "sums", ("ring", 0, longest[1:])), None)
        self.assertEqual(self.check(PARITY, "sums", ("ring", 0, (1,))), None)
        for odd in ((), (0,) + longest, [1], [], (2,), (1, -1), (True,), (1, None), None, 1, "1", ((1,),), (1, [0]),
                    (HUGE,)):
            self.assertEqual(self.check(PARITY, "sums", ("ring", 0, odd)), "string")
            for value in (("back", 0, odd, (1,)), ("back", 0, (1,), odd)):
                self.assertEqual(self.check(PARITY, "minus", value), "string")
            for value in (("even", 0, odd, (1,)), ("even", 0, (1,), odd)):
                self.assertEqual(self.check(PARITY, "masks", value), "string")
        self.assertEqual(self.check(PLUS, "twice", ("both", 0, 1, (1, 2, 1))), None)
        self.assertEqual(self.check(PLUS, "twice", ("both", 0, 1, (1, 4))), "string")
        self.assertEqual(self.check(BLINK, "sums", ("ring", 0, (0, 1))), "string")

    def test_the_letter_of_merge(self):
        told = {0: None, 1: "leads", 2: "leads", 3: None}
        for letter in (0, 1, 2, 3, 4, -1, True, False, None, (0,), [0], "0", HUGE):
            error = told.get(letter, "string") if type(letter) is int else "string"
            self.assertEqual(self.check(PLUS, "prefix", ("merge", 0, 1, letter)), error)

    def test_strings_of_unlike_lengths(self):
        for one, other in itertools.product(range(1, 5), repeat=2):
            string, still = (1,) + (0,) * (one - 1), (0,) * other
            told = None if one == other else "string"
            self.assertEqual(self.check(PARITY, "masks", ("even", 0, string, still)), told)
            # The two strings of back may be of any lengths.
            self.assertEqual(self.check(PARITY, "minus", ("back", 0, string, (0,) * (other - 1) + (1,))), None)

    def test_which_comes_first(self):
        self.assertEqual(self.check(THIRD, "sums", ("ring", 9, (), ())), "form")
        self.assertEqual(self.check(THIRD, "sums", ("ring", 9, ())), "state")
        self.assertEqual(self.check(THIRD, "sums", ("ring", 0, ())), "string")
        self.assertEqual(self.check(THIRD, "sums", ("ring", 0, (0,))), "leads")
        self.assertEqual(self.check(THIRD, "masks", ("even", 3, (0,), (1, 9))), "state")
        self.assertEqual(self.check(THIRD, "masks", ("even", 0, (0,), (1, 9))), "string")
        self.assertEqual(self.check(THIRD, "prefix", ("merge", 1, 1, 9)), "state")
        self.assertEqual(self.check(THIRD, "prefix", ("merge", 0, 1, 9)), "string")
        self.assertEqual(self.check(THIRD, "twice", ("both", 2, 1, 0)), "state")

    def test_where_they_lead(self):
        self.assertEqual(self.check(THIRD, "minus", ("back", 0, (1, 0), (0,))), "leads")
        self.assertEqual(self.check(THIRD, "minus", ("back", 0, (0,), (0,))), "leads")
        self.assertEqual(self.check(THIRD, "twice", ("both", 0, 2, (0,))), "leads")
        self.assertEqual(self.check(THIRD, "twice", ("both", 1, 2, (0, 0))), None)
        self.assertEqual(self.check(THIRD, "masks", ("even", 0, (1, 0), (1, 0))), "leads")
        self.assertEqual(self.check(THIRD, "masks", ("even", 2, (0, 0), (0, 0))), "leads")
        # A state beside the ring of the first string may be led anywhere by the other one.
        moved = (1, (((1, 0), (0, 1)), ((0, 1), (1, 1)), ((2, 0), (0, 0))))
        for value in (("even", 0, (0,), (1,)), ("even", 1, (0,), (1,))):
            self.assertEqual(self.check(moved, "masks", value), None)
        self.assertEqual(self.check(clock((0, 0, 1)), "turns", ("odd", 0, (0,) * 4)), None)
        self.assertEqual(self.check(clock((0, 0, 1)), "turns", ("odd", 0, (0,) * 3)), "leads")
        self.assertEqual(self.check(clock((0, 0, 0, 1)), "turns", ("odd", 0, (0,))), "leads")
        self.assertEqual(self.check(clock((0, 0, 0, 1), 1), "turns", ("odd", 0, (0,))), "leads")
        self.assertEqual(self.check(clock((0, 0, 0, 1), 1), "turns", ("odd", 1, (0,))), None)

    def test_where_it_stands_nothing_is_a_paper(self):
        rng = seeded(334)
        for machine in SWEPT:
            for book in BOOKS:
                if paper(machine, book) is not None:
                    continue
                for word in PAPERS[book]:
                    for _ in range(60):
                        self.assertIsNotNone(self.check(machine, book, some_paper(rng, machine, word)))


if __name__ == "__main__":
    unittest.main()
