"""Benches: what lies on them, and their edits."""

import unittest

from carryladder.benches import Bench
from carryladder.carrying import machine_of
from carryladder.errors import (BadMachine, BadProgram, LadderError, NothingToUndo, TooMany, TooManyEdits, Unfit)
from carryladder.leastmachines import least
from carryladder.lookalikes import same, tells
from carryladder.rungs import stands
from tests.bench_told import NAMES, NO_NAMES, Told, came_of, drawn_edit, edited, is_told_name, small_program
from tests.helpers import (LOW, MINUS, MIXED, ODD, PARITY, PLUS, cycles, machine_of_moves, outcome, raises,
                           random_machine, random_program, seeded)
from tests.rungs_told import BOOKS

UNFIT = raises(Unfit)
MANY = raises(TooMany, limit=2000)
LOWEST = (1, (((0, 0), (1, 1)), ((1, 0), (1, 0))))
# Too many places, too many states, too many turnings.
GREAT = (1, tuple([("mask", (0,) * size) for size in (8, 11, 23)]))
WIDE = (1, (("mask", (0, 0, 0, 0, 1)), ("mask", (0,) * 6 + (1,)), ("and", 1, 2)))
GROWN = machine_of_moves([cycles(7), [1, 0, 2, 3, 4, 5, 6], list(range(7)), [3] * 7], [[0, 0, 1, 0, 1, 1, 1]] * 4)


class BenchCase(unittest.TestCase):
    def check(self, bench, told):
        """Check that a bench has what the own book has."""
        things = told.states[-1]
        self.assertEqual(repr(bench.many), repr(told.many))
        self.assertEqual(repr(bench.edits), repr(tuple(told.edits)))
        self.assertEqual(repr(bench.version), repr(len(told.edits)))
        self.assertEqual(repr(bench.names()), repr(tuple(sorted(things))))
        for name in NAMES:
            kind, thing = things.get(name, (None, None))
            self.assertEqual(outcome(bench.machine_named, name), repr(thing) if kind == "machine" else UNFIT)
            self.assertEqual(outcome(bench.program_named, name), repr(thing) if kind == "program" else UNFIT)

    def do_both(self, bench, told, edit):
        came = came_of(edited, bench, edit)
        self.assertEqual(came, came_of(told.do, edit), edit)
        return came


class NewBenchTest(BenchCase):
    def test_new_benches(self):
        for many in (0, 1, 2):
            for bench in (Bench(many), Bench(many=many)):
                self.check(bench, Told(many))

    def test_unfit(self):
        for many in ODD + (3, -1, 256, "1", 1.0):
            if type(many) is not int or not 0 <= many <= 2:
                self.assertEqual(outcome(Bench, many), UNFIT, many)

    def test_what_can_only_be_read(self):
        bench = Bench(1)
        bench.put_machine("a", MINUS)
        for name in ("many", "edits", "version"):
            with self.assertRaises(AttributeError):
                setattr(bench, name, 0)
        self.assertEqual((bench.many, bench.edits, bench.version), (1, (("put_machine", "a", MINUS),), 1))

    def test_what_was_returned_stays(self):
        bench = Bench(1)
        before = (bench.edits, bench.names())
        bench.put_machine("a", MINUS)
        between = (bench.edits, bench.names(), bench.machine_named("a"))
        bench.put_machine("a", LOWEST)
        bench.drop("a")
        self.assertEqual(before, ((), ()))
        self.assertEqual(between, ((("put_machine", "a", MINUS),), ("a",), MINUS))


class EditsTest(BenchCase):
    def test_drawn_edits(self):
        rng = seeded(901)
        for many in (0, 1, 2):
            for _ in range(6):
                bench, told = Bench(many), Told(many)
                refused = 0
                for _ in range(60):
                    if rng.randrange(8) == 0:
                        self.assertEqual(came_of(bench.undo), came_of(told.undo))
                    else:
                        refused += self.do_both(bench, told, drawn_edit(rng, many)).startswith("raises")
                    self.check(bench, told)
                self.assertGreater(refused, 5)
                while told.edits:
                    self.assertEqual(came_of(bench.undo), came_of(told.undo))
                    self.check(bench, told)
                self.assertEqual(outcome(bench.undo), raises(NothingToUndo))

    def test_versions(self):
        bench = Bench(1)
        came = [bench.put_machine("m", LOWEST), bench.make("p", "m", "minus"), bench.take("q", "p"), bench.drop("m"),
                bench.put_program("m", LOW), bench.undo(), bench.undo(), bench.put_program("r", LOW)]
        self.assertEqual(came, [1, 2, 3, 4, 5, 4, 3, 4])
        self.assertEqual(bench.names(), ("m", "p", "q", "r"))

    def test_names(self):
        bench = Bench(1)
        for name in ("a", "z", "abcdefghijklmnopqrst", "none"):
            bench.put_machine(name, MINUS)
        self.assertEqual(bench.names(), ("a", "abcdefghijklmnopqrst", "none", "z"))
        for name in NO_NAMES + ("y",):
            for call in (bench.machine_named, bench.program_named, bench.drop):
                self.assertEqual(outcome(call, name), UNFIT, name)
            for told in ((name, "a"), ("a", name), (name, name)):
                self.assertEqual(outcome(bench.tells, *told), UNFIT)
        for name in NO_NAMES:
            if not is_told_name(name):
                self.assertEqual(outcome(bench.put_machine, name, MINUS), UNFIT)
                self.assertEqual(outcome(bench.put_program, name, LOW), UNFIT)
        self.assertEqual(bench.version, 4)

    def test_the_place_of_an_elder_thing(self):
        bench = Bench(1)
        bench.put_machine("a", MINUS)
        bench.put_program("a", LOW)
        self.assertEqual(outcome(bench.machine_named, "a"), UNFIT)
        self.assertEqual(bench.program_named("a"), LOW)
        bench.take("a", "a")
        self.assertEqual(bench.machine_named("a"), LOWEST)
        bench.make("a", "a", "minus")
        self.assertTrue(same(bench.program_named("a"), LOW))
        bench.put_machine("a", PARITY)
        bench.drop("a")
        self.assertEqual(bench.names(), ())
        told = []
        while bench.version:
            bench.undo()
            told.append(bench.named("a")[1] if bench.version else None)
        self.assertEqual([told[0], told[2], told[3], told[4], told[5]], [PARITY, LOWEST, LOW, MINUS, None])

    def test_by_name(self):
        bench = Bench(many=1)
        came = [bench.put_machine(name="m", machine=LOWEST), bench.put_program(program=LOW, name="p"),
                bench.make(book="minus", of="m", name="made"), bench.take(of="p", name="t"), bench.drop(name="p")]
        self.assertEqual(came, [1, 2, 3, 4, 5])
        self.assertEqual(bench.machine_named(name="t"), LOWEST)
        self.assertTrue(bench.tells(other="m", one="made"))
        self.assertEqual(bench.program_named(name="made"), bench.program_named("made"))


class FirstErrorTest(BenchCase):
    def setUp(self):
        self.bench = Bench(1)
        self.bench.put_machine("m", MINUS)
        self.bench.put_program("p", LOW)
        self.bench.put_program("great", GREAT)
        self.bench.put_program("wide", WIDE)

    def refused(self, told, edit):
        before = (self.bench.edits, self.bench.names(), self.bench.twin())
        self.assertEqual(outcome(edited, self.bench, edit), told, edit)
        self.assertEqual((self.bench.edits, self.bench.names()), before[:2])
        self.assertTrue(self.bench == before[2])

    def test_putting(self):
        for kind, word, right, wrong in ((BadMachine, "put_machine", MINUS, LOW), (BadProgram, "put_program", LOW, MINUS)):
            for name in NO_NAMES:
                if not is_told_name(name):
                    for thing in (right, wrong, None):
                        self.refused(UNFIT, (word, name, thing))
            for value in ODD:
                self.assertTrue(outcome(edited, self.bench, (word, "x", value)).startswith("raises " + kind.__name__))
            self.refused(raises(kind, error="form"), (word, "x", [1, ()]))
            self.refused(raises(kind, error="many"), (word, "x", (3, right[1])))
            self.refused(raises(kind, error="many"), (word, "x", (True, right[1])))
        self.refused(raises(BadMachine, error=("letter", 0, 1)), ("put_machine", "x", (1, (((0, 0), (1, 0)),))))
        self.refused(raises(BadMachine, error=("row", 0)), ("put_machine", "x", (2, (((0, 0), (1, 0)),))))
        self.refused(raises(BadProgram, error=("operand", 0, 0)), ("put_program", "x", (0, (("not", 0),))))
        self.refused(UNFIT, ("put_machine", "x", PLUS))
        self.refused(UNFIT, ("put_program", "x", MIXED))
        self.refused(UNFIT, ("put_machine", "m", (0, (((0, 0),),))))

    def test_make(self):
        for name in NO_NAMES:
            if not is_told_name(name):
                self.refused(UNFIT, ("make", name, "m", "minus"))
            self.refused(UNFIT, ("make", "x", name, "minus"))
        for of in ("p", "none", "great"):
            self.refused(UNFIT, ("make", "x", of, "minus"))
        for book in ODD + ("more", "Minus", "minus ", "", ("minus",)):
            self.refused(UNFIT, ("make", "x", "m", book))
        for book in ("plain", "prefix", "twice"):
            self.refused(UNFIT, ("make", "x", "m", book))

    def test_make_with_too_many_turnings(self):
        self.bench = Bench(2)
        self.bench.put_machine("grown", GROWN)
        for book in ("sums", "masks", "turns"):
            self.refused(MANY, ("make", "x", "grown", book))
            self.refused(UNFIT, ("make", "X", "grown", book))
        for book in ("plain", "prefix", "twice", "minus"):
            self.refused(UNFIT, ("make", "x", "grown", book))

    def test_take(self):
        for name in NO_NAMES:
            if not is_told_name(name):
                self.refused(UNFIT, ("take", name, "p"))
            self.refused(UNFIT, ("take", "x", name))
        for of in ("m", "none"):
            self.refused(UNFIT, ("take", "x", of))
        self.refused(MANY, ("take", "x", "great"))
        self.refused(raises(TooMany, limit=24), ("take", "x", "wide"))
        self.refused(UNFIT, ("take", "X", "great"))

    def test_drop(self):
        for name in NO_NAMES + ("none", "x"):
            self.refused(UNFIT, ("drop", name))

    def test_too_many_edits_come_last(self):
        while self.bench.version < 200:
            self.bench.put_machine("x", MINUS)
        for edit in (("put_machine", "x", MINUS), ("put_program", "new", LOW), ("make", "x", "m", "sums"),
                     ("take", "x", "p"), ("drop", "x")):
            self.refused(raises(TooManyEdits), edit)
        for told, edit in ((UNFIT, ("put_machine", "X", MINUS)), (raises(BadMachine, error="form"), ("put_machine", "x", 7)),
                           (UNFIT, ("put_machine", "x", PLUS)), (raises(BadProgram, error="form"), ("put_program", "x", 7)),
                           (UNFIT, ("put_program", "x", MIXED)), (UNFIT, ("make", "x", "m", "twice")),
                           (UNFIT, ("make", "x", "p", "sums")), (MANY, ("take", "x", "great")),
                           (raises(TooMany, limit=24), ("take", "x", "wide")), (UNFIT, ("take", "x", "m")),
                           (UNFIT, ("drop", "new"))):
            self.refused(told, edit)
        twin = self.bench.twin()
        self.assertEqual(outcome(twin.drop, "x"), raises(TooManyEdits))
        self.assertEqual(twin.undo(), 199)
        self.assertEqual(outcome(self.bench.drop, "x"), raises(TooManyEdits))
        self.assertEqual(twin.drop("x"), 200)
        self.assertEqual(outcome(twin.undo), "199")
        self.assertEqual([self.bench.undo(), self.bench.make("x", "m", "sums")], [199, 200])
        self.assertEqual(outcome(self.bench.take, "x", "p"), raises(TooManyEdits))

    def test_two_hundred_undone(self):
        bench = Bench(1)
        for k in range(200):
            self.assertEqual(bench.put_machine(NAMES[k % 5], MINUS if k % 2 else LOWEST), k + 1)
        for k in range(200):
            self.assertEqual(bench.undo(), 199 - k)
        self.assertTrue(bench == Bench(1))
        self.assertEqual(outcome(bench.undo), raises(NothingToUndo))


class TellsTest(BenchCase):
    def test_tells(self):
        bench = Bench(1)
        bench.put_machine("minus", MINUS)
        bench.put_machine("lowest", LOWEST)
        bench.put_program("low", LOW)
        bench.put_program("neg", (1, (("minus", 0),)))
        bench.put_program("great", GREAT)
        self.assertIs(bench.tells("low", "lowest"), True)
        self.assertIs(bench.tells("low", "minus"), False)
        self.assertIs(bench.tells("neg", "minus"), True)
        self.assertEqual(outcome(bench.tells, "great", "minus"), MANY)
        for one, other in (("low", "low"), ("minus", "minus"), ("minus", "low"), ("none", "minus"), ("low", "none"),
                           ("great", "great"), ("great", None), (None, "minus"), ([], {})):
            self.assertEqual(outcome(bench.tells, one, other), UNFIT)
        self.assertEqual(bench.version, 5)

    def test_drawn(self):
        rng = seeded(921)
        for many in (0, 1, 2):
            bench = Bench(many)
            for _ in range(25):
                bench.put_machine("m", random_machine(rng, many, 2))
                bench.put_program("p", small_program(rng, many))
                told = tells(bench.program_named("p"), bench.machine_named("m"))
                self.assertEqual(repr(bench.tells("p", "m")), repr(told))


class TwinsTest(BenchCase):
    def test_twins_go_their_own_ways(self):
        rng = seeded(931)
        for many in (0, 1, 2):
            bench, told = Bench(many), Told(many)
            for _ in range(25):
                self.do_both(bench, told, drawn_edit(rng, many))
            twin, other = bench.twin(), told.twin()
            self.check(twin, other)
            self.assertTrue(twin == bench and not twin != bench)
            for _ in range(40):
                one, own = rng.choice(((bench, told), (twin, other)))
                if rng.randrange(3) == 0:
                    self.assertEqual(came_of(one.undo), came_of(own.undo))
                else:
                    self.do_both(one, own, drawn_edit(rng, many))
                self.check(bench, told)
                self.check(twin, other)
                self.assertEqual(bench == twin, told.states[-1] == other.states[-1])
                self.assertEqual(bench != twin, told.states[-1] != other.states[-1])


class EqualTest(BenchCase):
    def test_equal_by_other_edits(self):
        one, other = Bench(1), Bench(1)
        one.put_program("p", LOW)
        one.take("m", "p")
        other.put_machine("m", LOWEST)
        other.put_machine("p", MINUS)
        self.assertFalse(one == other)
        other.put_program("p", LOW)
        self.assertTrue(one == other)
        self.assertFalse(one != other)
        self.assertNotEqual(one.edits, other.edits)
        other.put_machine("q", MINUS)
        self.assertTrue(one != other)
        other.drop("q")
        self.assertTrue(other == one)

    def test_numbers_of_words(self):
        benches = [Bench(many) for many in (0, 1, 2)]
        for one in benches:
            for other in benches:
                self.assertEqual(one == other, one is other)
                self.assertEqual(one != other, one is not other)

    def test_names_and_things(self):
        one, other = Bench(1), Bench(1)
        one.put_machine("a", MINUS)
        self.assertFalse(one == other)
        other.put_machine("b", MINUS)
        self.assertFalse(one == other)
        other.put_machine("a", LOWEST)
        other.drop("b")
        self.assertFalse(one == other)
        other.put_program("a", (1, (("minus", 0),)))
        self.assertFalse(one == other)
        other.put_machine("a", (1, tuple(list(MINUS[1]))))
        self.assertTrue(one == other)

    def test_other_values(self):
        bench = Bench(1)
        for value in ODD + (MINUS, LOW, 1, Bench, {"a": bench}, (bench,), Told(1)):
            self.assertIs(bench == value, False)
            self.assertIs(bench != value, True)
            self.assertIs(value == bench, False)
            self.assertIs(value != bench, True)

    def test_benches_as_arguments(self):
        bench = Bench(1)
        for call, told in ((bench.put_machine, ("a", bench)), (bench.put_program, ("a", bench)),
                           (bench.drop, (bench,)), (bench.make, (bench, bench, bench)), (bench.tells, (bench, bench)),
                           (Bench, (bench,)), (bench.machine_named, (bench,)), (bench.take, ("a", bench))):
            self.assertTrue(outcome(call, *told).startswith("raises "))


class HoldsTest(BenchCase):
    def test_made_and_taken(self):
        rng = seeded(941)
        for many in (0, 1, 2):
            for _ in range(25):
                bench = Bench(many)
                machine = random_machine(rng, many, rng.randint(1, 3))
                bench.put_machine("m", machine)
                for book in BOOKS:
                    came = outcome(bench.make, "n", "m", book)
                    self.assertEqual(came == UNFIT, not stands(machine, book))
                    if came == UNFIT:
                        continue
                    bench.take("k", "n")
                    self.assertEqual(bench.machine_named("k"), least(machine))
                    self.assertIs(bench.tells("n", "m"), True)
                    self.assertIs(bench.tells("n", "k"), True)

    def test_put_and_taken(self):
        rng = seeded(942)
        for many in (0, 1, 2):
            for _ in range(20):
                bench = Bench(many)
                program, other = small_program(rng, many), small_program(rng, many)
                bench.put_program("n", program)
                bench.put_program("o", other)
                try:
                    bench.take("k", "n")
                except LadderError:
                    self.assertTrue(outcome(machine_of, program).startswith("raises"))
                    continue
                self.assertEqual(bench.tells("o", "k"), same(program, other))
                self.assertTrue(bench.tells("n", "k"))

    def test_asking_changes_nothing(self):
        rng = seeded(943)
        bench, told = Bench(1), Told(1)
        for _ in range(30):
            self.do_both(bench, told, drawn_edit(rng, 1))
        for name in NAMES + NO_NAMES:
            for call in (bench.machine_named, bench.program_named):
                outcome(call, name)
            for other in NAMES:
                outcome(bench.tells, name, other)
        self.check(bench, told)

    def test_great_programs(self):
        bench = Bench(1)
        program = random_program(seeded(944), 1, 6000, ("and", "or", "xor", "not"))
        self.assertEqual(bench.put_program("p", program), 1)
        self.assertEqual(bench.take("m", "p"), 2)
        self.assertTrue(bench.tells("p", "m"))


if __name__ == "__main__":
    unittest.main()
