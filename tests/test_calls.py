"""What holds of every call: by name as by place, again as before, and nothing handed in is changed."""

import copy
import unittest

from carryladder.benchlogs import bench_behind, log_text, read_log
from carryladder.carrying import machine_of, places
from carryladder.counting import lots, noughts, ones_at, ones_in_all
from carryladder.fewest import fewest, made_with_fewest, setters
from carryladder.hanging import hangs, reach
from carryladder.leastmachines import alike, least, parting
from carryladder.lookalikes import same, tells, unlike, wrong
from carryladder.machines import ending, machine_error, written
from carryladder.machinetexts import machine_text, read_machine
from carryladder.making import made
from carryladder.onewidth import at_width, hangs_above, table_error, table_of
from carryladder.paperjudge import paper_error
from carryladder.papers import paper
from carryladder.programs import book_of, composed, neat, program_error
from carryladder.programtexts import program_text, read_program
from carryladder.rings import rings
from carryladder.rungs import books_of, stands
from carryladder.running import result, values
from carryladder.tricks import (below_lowest, carried, every, gray, greater, lowest_one, run_cleared, same_up_to,
                                times, ungray, without_lowest)
from carryladder.turnings import steady, turning, turnings
from tests.helpers import (BLINK, COPY, LOW, MINUS, MIXED, ODD, PARITY, PLUS, cycles, machine_of_moves, outcome,
                           random_machine, random_program, random_words, seeded)
from tests.rungs_told import BOOKS

FULL = (1, (("not", 0),) * 6000)
SPARE = (2, (("not", 0), ("mask", (1, 0)), ("minus", 1), ("less", 1, 4)))
GROWN = machine_of_moves([cycles(8), [1, 0, 2, 3, 4, 5, 6, 7], list(range(8)), [0] * 8], [[0] * 7 + [1]] * 4)
GREAT = (0, tuple([("mask", (0,) * size) for size in (8, 11, 23)]))
LOG = (("put_machine", "m", MINUS), ("make", "p", "m", "minus"), ("take", "n", "p"), ("put_program", "q", LOW),
       ("drop", "m"))


def things_behind(many, value):
    """bench_behind, by what the bench has."""
    bench = bench_behind(many=many, value=value)
    return bench.many, bench.edits, tuple([(name, bench.named(name)) for name in bench.names()])


def calls():
    """Triples of a function, its arguments' names and what is handed in, right and wrong."""
    rng = seeded(71)
    found = []
    for value in ODD + (MINUS, LOW, [MINUS], (1, [1]), (1, ([1], {})), "words 1\n0: 0/0 0/1", "words 1\n0: 0/0 5/1",
                        "words 1\nv1 = not v0"):
        for call in (machine_error, program_error, read_machine, read_program, table_error, read_log):
            found.append((call, ("value",), (value,)))
        found += [(call, ("table",), (value,)) for call in (hangs_above, at_width)]
        found.append((things_behind, ("many", "value"), (1, value)))
    machines = [MINUS, PLUS, COPY, PARITY, BLINK] + [random_machine(rng, many, 24) for many in (0, 1, 2)]
    for machine in machines + [GROWN]:
        found += machine_calls(rng, machine) + rung_calls(machine) + other_machine_calls(machine)
        for other in machines:
            found += [(call, ("one", "other"), (machine, other)) for call in (alike, parting)]
    programs = [LOW, MIXED, SPARE, GREAT] + [random_program(rng, many, 30) for many in (0, 1, 2)]
    for program in programs:
        found += program_calls(rng, program)
        for other in programs:
            found += [(call, ("one", "other"), (program, other)) for call in (same, unlike)]
        for machine in machines:
            found += [(call, ("program", "machine"), (program, machine)) for call in (tells, wrong)]
    return found + trick_calls() + log_calls() + table_calls() + [(composed, ("program", "parts"), (FULL, (part,))) for part in (LOW, MIXED)]


def trick_calls():
    tricks = (lowest_one, below_lowest, without_lowest, run_cleared, gray, ungray, same_up_to, greater, carried)
    return [(trick, (), ()) for trick in tricks] + [(trick, ("n",), (n,)) for trick in (times, every) for n in (1, 24)]


def log_calls():
    found = [(log_text, ("log",), (log,)) for log in (LOG, LOG[::-1], ())]
    texts = (log_text(LOG), log_text(LOG) + "\n", log_text(LOG)[:-1], "drop a\ndrop A\n")
    found += [(read_log, ("value",), (text,)) for text in texts]
    logs = (LOG, LOG[::-1], LOG + LOG, LOG * 41, LOG + (["drop", "n"],), LOG + (("drop", []),), [LOG])
    return found + [(things_behind, ("many", "value"), (many, log)) for many in (1, 2, 3, None) for log in logs]


def table_calls():
    tables = ((1, 2, (0, 3, 2, 1)), (1, 2, (0, 0, 1, 1)), (2, 1, (1, 0, 0, 1)), (1, 2, (0, 3, 2, 4)), (1, 2, [0, 3, 2, 1]))
    found = [(table_error, ("value",), (table,)) for table in tables]
    return found + [(call, ("table",), (table,)) for table in tables for call in (hangs_above, at_width)]


def other_machine_calls(machine):
    found = [(call, ("machine",), (machine,)) for call in (setters, fewest, made_with_fewest)]
    found += [(made, ("machine", "book"), (machine, book)) for book in BOOKS]
    for width in (1, 7, 256):
        found += [(call, ("machine", "width"), (machine, width)) for call in (lots, noughts, ones_in_all)]
        found.append((ones_at, ("machine", "i"), (machine, width - 1)))
    for j in range(machine[0]):
        found += [(hangs, ("machine", "j", "distance"), (machine, j, distance)) for distance in (0, 1, 30)]
        found.append((reach, ("machine", "j"), (machine, j)))
    return found


def machine_calls(rng, machine):
    width = rng.choice((1, 9, 256))
    string = tuple([rng.randrange(2 ** machine[0]) for _ in range(50)])
    return [
        (least, ("machine",), (machine,)),
        (machine_text, ("machine",), (machine,)),
        (read_machine, ("value",), (machine_text(machine),)),
        (read_machine, ("value",), (machine_text(machine) + "\n\n0: 0/0",)),
        (written, ("machine", "width", "words"), (machine, width, random_words(rng, machine[0], width))),
        (ending, ("machine", "string"), (machine, string)),
        (turning, ("machine", "string"), (machine, string)),
        (turnings, ("machine",), (machine,)),
        (steady, ("machine",), (machine,)),
    ]


def rung_calls(machine):
    found = [(books_of, ("machine",), (machine,)), (rings, ("moves",), (turning(machine, (0, 0)),))]
    for book in BOOKS:
        found += [(call, ("machine", "book"), (machine, book)) for call in (stands, paper)]
        for value in (None, ("two", 1), ("ring", 0, (0, 0)), ("even", 0, [0], (0,)), ("back", 0, (1,), (0, [1])),
                      ("odd", 1, (0,)), ("both", 0, 1, (0,)), ["merge", 0, 1, {"a": 1}], ("merge", 0, 1, 0)):
            found.append((paper_error, ("machine", "book", "value"), (machine, book, value)))
    return found


def program_calls(rng, program):
    width = rng.choice((1, 9, 256))
    words = random_words(rng, program[0], width)
    parts = tuple([random_program(rng, 2, 5) for _ in range(program[0])])
    found = [(call, ("program",), (program,)) for call in (book_of, neat, program_text, places, machine_of)]
    found += [(call, ("program", "width", "words"), (program, width, words)) for call in (values, result)]
    found += [(table_of, ("program", "width"), (program, own)) for own in (1, 3, 5, 9, None, [3])]
    texts = (program_text(program), program_text(program) + "\n")
    found += [(read_program, ("value",), (text,)) for text in texts]
    return found + [(composed, ("program", "parts"), (program, parts))]


def parts_of(value):
    """The value, and all parts of its tuples."""
    found = [value]
    for part in found:
        if isinstance(part, tuple):
            found.extend(part)
    return found


class CallsTest(unittest.TestCase):
    def test_by_name_as_by_place(self):
        for call, names, given in calls():
            told = outcome(call, *given)
            self.assertEqual(outcome(call, **dict(zip(names, given))), told, call)
            backwards = dict(reversed(list(zip(names, given))))
            self.assertEqual(outcome(call, **backwards), told, call)
            self.assertEqual(outcome(call, *given[:1], **dict(zip(names[1:], given[1:]))), told, call)

    def test_calls_made_again(self):
        told = [outcome(call, *given) for call, _, given in calls()]
        again = [outcome(call, *given) for call, _, given in reversed(calls())]
        self.assertEqual(again[::-1], told)
        # Among these there are errors, so no error between two calls changes what comes behind it.
        for kind in ("Unfit", "BadMachine", "BadTable", "BadText", "BadLog", "TooMany"):
            self.assertTrue(any(came.startswith("raises " + kind) for came in told), kind)

    def test_equal_but_other_values(self):
        for call, _, given in calls():
            self.assertEqual(outcome(call, *copy.deepcopy(given)), outcome(call, *given))

    def test_what_is_handed_in_stays(self):
        for call, _, given in calls():
            before = repr(given)
            outcome(call, *given)
            self.assertEqual(repr(given), before)

    def test_what_is_returned_never_changes(self):
        for call, _, given in calls():
            try:
                returned = call(*given)
            except ValueError:
                continue
            for part in parts_of(returned):
                self.assertIn(type(part), (tuple, int, bool, str, type(None)), call)

    def test_errors_between_calls(self):
        for _ in range(2):
            self.assertEqual(outcome(parting, MINUS, COPY), "(2, (1,))")
            self.assertTrue(outcome(parting, MINUS, PLUS).startswith("raises Unfit"))
            self.assertEqual(outcome(read_program, "words 0\nv0 = ones"), "(0, (('ones',),))")
            self.assertTrue(outcome(read_program, "words 0\nv0 = ones\nv1 = v9").startswith("raises BadText"))
            self.assertEqual(outcome(read_machine, "words 0\n0: 0/1"), "(0, (((0, 1),),))")
            self.assertTrue(outcome(read_machine, "words 0\n0: 1/1").startswith("raises BadMachine"))
            self.assertEqual(outcome(composed, LOW, (LOW,))[:4], "(1, ")
            self.assertTrue(outcome(composed, FULL, (LOW,)).startswith("raises TooMany"))
            self.assertEqual(outcome(places, LOW), "2")
            self.assertTrue(outcome(places, GREAT).startswith("raises TooMany"))
            self.assertEqual(outcome(wrong, LOW, COPY), "(2, (3,))")
            self.assertTrue(outcome(wrong, LOW, PLUS).startswith("raises Unfit"))
            self.assertEqual(outcome(unlike, LOW, times(1)), "(2, (3,))")
            self.assertTrue(outcome(same, GREAT, every(2)).startswith("raises TooMany"))
            self.assertEqual(outcome(machine_of, times(1)), repr(COPY))
            self.assertTrue(outcome(machine_of, times(25)).startswith("raises TooMany"))
            self.assertEqual(outcome(turnings, BLINK), "(((0, 1), (0, 0)), ((1, 0), (0,)))")
            self.assertTrue(outcome(turnings, GROWN).startswith("raises TooMany"))
            self.assertEqual(outcome(steady, BLINK), "(2, (((0, 1), (0, 0)),))")
            self.assertTrue(outcome(steady, GROWN).startswith("raises TooMany"))
            self.assertEqual(outcome(books_of, PARITY), "('prefix', 'turns')")
            self.assertTrue(outcome(stands, GROWN, "sums").startswith("raises TooMany"))
            self.assertEqual(outcome(paper, PARITY, "sums"), "('ring', 0, (1,))")
            self.assertTrue(outcome(paper, GROWN, "sums").startswith("raises TooMany"))
            self.assertEqual(outcome(paper_error, PARITY, "sums", ("ring", 0, (1,))), "None")
            self.assertTrue(outcome(made, GROWN, "sums").startswith("raises TooMany"))
            self.assertEqual(outcome(made, COPY, "plain"), "(1, (('and', 0, 0),))")
            self.assertTrue(outcome(made, PARITY, "sums").startswith("raises Unfit"))
            self.assertEqual(outcome(hangs_above, (1, 1, (0, 1))), "None")
            self.assertTrue(outcome(at_width, (1, 2, (0, 0, 1, 1))).startswith("raises Unfit"))
            self.assertEqual(outcome(fewest, PLUS), "1")
            self.assertTrue(outcome(fewest, PARITY).startswith("raises Unfit"))
            self.assertEqual(outcome(read_log, "drop a"), "(('drop', 'a'),)")
            self.assertTrue(outcome(read_log, "drop A").startswith("raises BadText"))
            self.assertTrue(outcome(bench_behind, 1, LOG[1:]).startswith("raises BadLog"))
            self.assertEqual(bench_behind(1, LOG).names(), ("n", "p", "q"))


if __name__ == "__main__":
    unittest.main()
