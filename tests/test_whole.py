"""What holds over the whole program: machines, books, papers, programs, benches and shells beside one another."""

import itertools
import unittest

from carryladder.benches import Bench
from carryladder.carrying import machine_of, places
from carryladder.counting import noughts, ones_in_all
from carryladder.errors import TooMany, Unfit
from carryladder.fewest import made_with_fewest, setters
from carryladder.hanging import reach
from carryladder.leastmachines import alike, least, parting
from carryladder.lookalikes import same, tells, unlike, wrong
from carryladder.machines import written
from carryladder.machinetexts import machine_text
from carryladder.making import made
from carryladder.onewidth import at_width, hangs_above, table_of
from carryladder.paperjudge import paper_error
from carryladder.papers import paper
from carryladder.programs import book_of, composed, neat
from carryladder.programtexts import program_text, read_program
from carryladder.rungs import books_of, stands
from carryladder.running import result
from carryladder.shells import Shell
from tests.helpers import (BLINK, COPY, MINUS, PARITY, PLUS, clock, outcome, raises, random_machine, random_program,
                           random_words, seeded)
from tests.making_told import (PLAIN, WORDS, around, drawn_moves, halves_turned, into_clocks, left_for_good, lower,
                               one_up, ordered, staying, to_one)
from tests.rungs_told import BOOKS, told_books
from tests.shell_told import one_line

UNFIT = raises(Unfit)
MANY = (raises(TooMany, limit=2000), raises(TooMany, limit=24))


def machines():
    rng = seeded(1201)
    found = [MINUS, PLUS, COPY, PARITY, BLINK, clock((0, 0, 1)), clock((1, 0, 0, 1, 0), 2), into_clocks(rng, 1, (2, 3))]
    found += [random_machine(rng, many, states) for many in (0, 1, 2) for states in (1, 2, 3) for _ in range(12)]
    found += [left_for_good(rng, many, 4) for many in (1, 2) for _ in range(4)]
    kinds = ((ordered, to_one), (lower, staying), (one_up, to_one), (around, to_one, staying), (halves_turned, to_one))
    return found + [drawn_moves(rng, many, 4, own) for many in (1, 2) for own in kinds for _ in range(3)]


class LadderTest(unittest.TestCase):
    def test_either_a_paper_or_a_program(self):
        found = set()
        for machine in machines():
            books = told_books(machine)
            found.add(books)
            self.assertEqual(books_of(machine), books)
            for book in BOOKS:
                shown = paper(machine, book)
                self.assertEqual(shown is None, book in books)
                if shown is None:
                    program = made(machine, book)
                    self.assertTrue(tells(program, machine))
                    self.assertLessEqual(BOOKS.index(book_of(program)), 6)
                    self.assertTrue(alike(machine_of(program), machine))
                else:
                    self.assertIsNone(paper_error(machine, book, shown))
                    self.assertEqual(outcome(made, machine, book), UNFIT)
        self.assertGreater(len(found), 9)

    def test_programs_of_one_machine_are_alike(self):
        for machine in machines():
            programs = [made(machine, book) for book in books_of(machine)]
            if setters(machine):
                programs.append(made_with_fewest(machine))
            for one, other in zip(programs, programs[1:]):
                self.assertTrue(same(one, other))
                self.assertIsNone(unlike(one, other))
            for program in programs:
                self.assertIsNone(wrong(read_program(program_text(program)), machine))
                self.assertTrue(same(neat(program), program))

    def test_programs_and_their_machines(self):
        rng = seeded(1202)
        for book in BOOKS:
            taken = 0
            while taken < 15:
                program = random_program(rng, rng.randrange(3), rng.randint(1, 6), WORDS[book] * 2 + PLAIN)
                if outcome(places, program) in MANY or outcome(machine_of, program) in MANY:
                    continue
                taken += 1
                machine = machine_of(program)
                self.assertTrue(stands(machine, book))
                for own in books_of(machine):
                    other = made(machine, own)
                    self.assertTrue(same(program, other))
                    self.assertEqual(machine_of(other), machine)
                    for width in (1, 2, 9, 256):
                        words = random_words(rng, machine[0], width)
                        self.assertEqual(result(other, width, words), result(program, width, words))

    def test_programs_put_into_one_another(self):
        rng = seeded(1203)
        for book in BOOKS:
            for _ in range(8):
                one, other = [random_program(rng, 1, 3, WORDS[book] + PLAIN) for _ in range(2)]
                both = composed(one, (other,))
                if outcome(places, both) in MANY or outcome(machine_of, both) in MANY:
                    continue
                self.assertTrue(stands(machine_of(both), book))
                again = composed(made(machine_of(one), book), (made(machine_of(other), book),))
                self.assertTrue(same(both, again))

    def test_one_width(self):
        # At one width each machine has a program of minus, whether or not it stands on that book.
        for machine in machines():
            many = machine[0]
            for width in (1, 2, 4) if many else ():
                results = [0] * 2 ** (many * width)
                for words in itertools.product(range(2 ** width), repeat=many):
                    place = sum([word << width * j for j, word in enumerate(words)])
                    results[place] = written(machine, width, words)
                table = (many, width, tuple(results))
                self.assertIsNone(hangs_above(table))
                program = at_width(table)
                self.assertEqual(table_of(program, width), table)
                apart = outcome(wrong, program, machine)
                if apart not in MANY + ("None",):
                    self.assertGreater(wrong(program, machine)[0], width)

    def test_counts_and_reaches_of_made_programs(self):
        for machine in machines():
            for book in books_of(machine)[-1:]:
                other = machine_of(made(machine, book))
                self.assertEqual(noughts(other, 77), noughts(machine, 77))
                self.assertEqual(ones_in_all(other, 77), ones_in_all(machine, 77))
                for j in range(machine[0]):
                    self.assertEqual(reach(other, j), reach(machine, j))

    def test_parting_and_wrong(self):
        own = machines()
        for machine, other in zip(own, own[1:]):
            if machine[0] == other[0]:
                for book in books_of(machine)[:1]:
                    self.assertEqual(wrong(made(machine, book), other), parting(machine, other))


class BenchAndShellTest(unittest.TestCase):
    def test_the_same_told_by_a_bench_and_by_a_shell(self):
        for machine in machines():
            bench, shell = Bench(machine[0]), Shell()
            shell.say(f"begin {machine[0]}")
            self.assertEqual(bench.put_machine("m", machine), 1)
            self.assertEqual(shell.say("machine m " + one_line(machine_text(machine))), "version 1")
            self.assertEqual(shell.say("books m"), " ".join(books_of(machine)) or "none")
            for book in BOOKS:
                came = outcome(bench.make, "p", "m", book)
                said = shell.say("make p m " + book)
                fits = stands(machine, book)
                self.assertEqual(came, repr(bench.version) if fits else UNFIT)
                self.assertEqual(said, f"version {bench.version}" if fits else "unfit")
                self.assertEqual(shell.say("paper m " + book) == "stands", fits)
                if fits:
                    self.assertEqual(bench.program_named("p"), made(machine, book))
                    self.assertTrue(bench.tells("p", "m"))
                    self.assertEqual(shell.say("alike p m"), "alike")
                    self.assertEqual(shell.say("show p"), one_line(program_text(bench.program_named("p"))))
                    bench.take("k", "p")
                    shell.say("take k p")
                    self.assertEqual(bench.machine_named("k"), least(machine))
                    self.assertEqual(shell.say("show k"), one_line(machine_text(least(machine))))

    def test_two_machines(self):
        own = machines()
        for machine, other in zip(own, own[1:]):
            if machine[0] != other[0]:
                continue
            shell = Shell()
            for line in (f"begin {machine[0]}", "machine a " + one_line(machine_text(machine)),
                         "machine b " + one_line(machine_text(other))):
                shell.say(line)
            apart = parting(machine, other)
            told = "alike"
            if apart is not None:
                told = " ".join([f"apart at {apart[0]}:"] + [str(word) for word in apart[1]])
            self.assertEqual(shell.say("alike a b"), told)


if __name__ == "__main__":
    unittest.main()
