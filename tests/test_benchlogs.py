"""log_text, read_log, bench_behind."""

import unittest

from carryladder.benches import Bench
from carryladder.benchlogs import bench_behind, log_text, read_log
from carryladder.errors import BadLog, BadText, Unfit
from tests.bench_told import NAMES, Told, came_of, drawn_edit, edited
from tests.benchlog_lines import told_line
from tests.helpers import LOW, MINUS, MIXED, ODD, PLUS, outcome, raises, random_machine, random_program, seeded
from tests.rungs_told import BOOKS

UNFIT = raises(Unfit)
LONG = "abcdefghijklmnopqrst"


def bad_text(line):
    return raises(BadText, line=line)


def bad_log(line):
    return raises(BadLog, line=line)


def drawn_log(rng, length):
    """Edits of each kind, whether or not they can be done one behind another."""
    log = []
    for _ in range(length):
        name, of = rng.choice(NAMES), rng.choice(NAMES)
        log.append(rng.choice((
            ("put_machine", name, random_machine(rng, rng.randrange(3), rng.randint(1, 24))),
            ("put_program", name, random_program(rng, rng.randrange(3), rng.randint(1, 9))),
            ("make", name, of, rng.choice(BOOKS)), ("take", name, of), ("drop", name))))
    return tuple(log)


def log_of_edits(rng, many, length):
    """A bench behind drawn edits, some of them taken back."""
    bench = Bench(many)
    for _ in range(length):
        came_of(edited, bench, drawn_edit(rng, many))
        if rng.randrange(10) == 0:
            came_of(bench.undo)
    return bench


class LogTextTest(unittest.TestCase):
    def check(self, log):
        text = log_text(log)
        self.assertEqual(text, "".join([told_line(edit) + "\n" for edit in log]))
        self.assertEqual(repr(read_log(text)), repr(log))
        self.assertEqual(repr(read_log(text[:-1])), repr(log))
        return text

    def test_each_kind_of_edit(self):
        self.assertEqual(self.check((("put_machine", "m", MINUS),)), "machine m words 1; 0: 0/0 1/1; 1: 1/1 1/0\n")
        self.assertEqual(self.check((("put_program", "p", LOW),)), "program p words 1; v1 = minus v0; v2 = v0 and v1\n")
        for book in BOOKS:
            self.assertEqual(self.check((("make", "a", LONG, book),)), f"make a {LONG} {book}\n")
        self.assertEqual(self.check((("take", LONG, "a"), ("take", "a", "a"))), f"take {LONG} a\ntake a a\n")
        self.assertEqual(self.check((("drop", "drop"), ("take", "take", "take"), ("make", "make", "make", "sums"))),
                         "drop drop\ntake take take\nmake make make sums\n")
        self.assertEqual(self.check(()), "")

    def test_drawn_logs(self):
        rng = seeded(1001)
        texts = {}
        for length in (1, 2, 5, 30, 200):
            for _ in range(4):
                log = drawn_log(rng, length)
                self.assertEqual(texts.setdefault(self.check(log), log), log)

    def test_unlike_logs_have_unlike_texts(self):
        near = [(("put_machine", "m", MINUS),), (("put_machine", "n", MINUS),), (("put_machine", "m", PLUS),),
                (("put_program", "m", LOW),), (("drop", "m"),), (("take", "m", "m"),), (("take", "m", "n"),),
                (("drop", "m"), ("drop", "m")), (("drop", "mm"),), (("make", "m", "m", "sums"),),
                (("make", "m", "m", "turns"),), ()]
        self.assertEqual(len({log_text(log) for log in near}), len(near))

    def test_logs_of_benches(self):
        rng = seeded(1002)
        for many in (0, 1, 2):
            for _ in range(8):
                bench = log_of_edits(rng, many, 40)
                self.check(bench.edits)
                self.assertTrue(bench_behind(many, bench.edits) == bench)
                self.assertEqual(bench_behind(many, bench.edits).edits, bench.edits)
                self.assertTrue(bench_behind(many, read_log(log_text(bench.edits))) == bench)


class ReadLogTest(unittest.TestCase):
    def test_no_texts(self):
        for value in ODD + (("drop a",), ["drop a"], b"drop a"):
            if type(value) is not str:
                self.assertEqual(outcome(read_log, value), bad_text(0), value)

    def test_ends(self):
        self.assertEqual(read_log(""), ())
        self.assertEqual(read_log("drop a"), (("drop", "a"),))
        self.assertEqual(read_log("drop a\n"), (("drop", "a"),))
        self.assertEqual(outcome(read_log, "\n"), bad_text(0))
        self.assertEqual(outcome(read_log, "\n\n"), bad_text(0))
        self.assertEqual(outcome(read_log, "drop a\n\n"), bad_text(1))
        self.assertEqual(outcome(read_log, "drop a\n\ndrop b\n"), bad_text(1))
        self.assertEqual(outcome(read_log, "\ndrop a\n"), bad_text(0))

    def test_lines_of_no_edit(self):
        lines = ("drop", "drop ", "drop a ", " drop a", "drop  a", "drop A", "drop a b", "Drop a", "drop " + LONG + "u",
                 "take a", "take a b c", "take a ", "make a b", "make a b more", "make a b sums ", "make a b sums x",
                 "make a sums", "make A b sums", "make a B sums", "undo", "names", "put_machine a b", "put_program a b",
                 "machine a", "machine a ", "machine A words 0; 0: 0/0", "machine a words 0", "machine",
                 "machine a words 0; 0: 0/0; ", "machine a words 0;0: 0/0", "machine a words 0;  0: 0/0",
                 "machine a words  0; 0: 0/0", "machine a words 0; 0: 0/0 ", "machine a  words 0; 0: 0/0",
                 "machine a words 0; 0: 1/0", "machine a words 3; 0: 0/0", "machine a words 00; 0: 0/0",
                 "machine a words 0; ; 0: 0/0", "program a", "program a ", "program a words 0",
                 "program a words 0; v0 = one", "program a words 0; v0 = ones; ", "program a words 0; v0 = ones ",
                 "program a words 0;v0 = ones", "program a words 1; v1 = not v1", "program  a words 0; v0 = ones",
                 "machine a words 0; v0 = ones", "program a words 0; 0: 0/0", "", " ", "\t", "\u00e4", "drop \u00e4",
                 "drop a\r", "begin 1", "put_machine", "put_machine a words 0; 0: 0/0")
        good = "take a b\nprogram a words 0; v0 = ones\nmake a b sums\nmachine a words 0; 0: 0/0\n"
        for line in lines:
            for ahead in (0, 4):
                text = good * (ahead // 4) + line + "\n" + good
                self.assertEqual(outcome(read_log, text), bad_text(ahead), line)

    def test_two_bad_lines(self):
        self.assertEqual(outcome(read_log, "drop a\ndrop A\ndrop B\n"), bad_text(1))
        self.assertEqual(outcome(read_log, "drop\ndrop A\ndrop B\n"), bad_text(0))

    def test_one_sign_changed_at_each_place(self):
        rng = seeded(1011)
        log = (("put_machine", "m", MINUS), ("put_program", "p", MIXED), ("make", "a", "m", "sums"), ("take", "b", "p"),
               ("drop", "a"))
        text = log_text(log)
        found = 0
        for at in range(len(text) + 1):
            for sign in ("", " ", "\n", ";", "0", "1", "a", "A", "v", rng.choice("23:/=xz")):
                for end in (at, at + 1):
                    other = text[:at] + sign + text[end:]
                    came = outcome(read_log, other)
                    if came.startswith("raises"):
                        found += 1
                        line = int(came.split(", ")[1].split(")")[0])
                        self.assertIn(line, (text[:at].count("\n"), text[:at].count("\n") + 1), other)
                        self.assertEqual(outcome(read_log, "\n".join(other.split("\n")[:line])),
                                         repr(read_log("\n".join(other.split("\n")[:line]))))
                    else:
                        # What is read is written just so again, but for the last line feed.
                        self.assertIn(other, (log_text(read_log(other)), log_text(read_log(other))[:-1]))
        self.assertGreater(found, 1000)

    def test_how_many(self):
        lines = ["drop a\n"] * 200
        self.assertEqual(len(read_log("".join(lines))), 200)
        self.assertEqual(outcome(read_log, "".join(lines + ["drop a\n"])), bad_text(200))
        self.assertEqual(outcome(read_log, "".join(lines + ["drop a"])), bad_text(200))
        self.assertEqual(outcome(read_log, "".join(lines + ["\n"])), bad_text(200))
        self.assertEqual(outcome(read_log, "".join(lines + ["no line\n"] * 9)), bad_text(200))
        self.assertEqual(outcome(read_log, "".join(lines[:199] + ["no\n"] + lines)), bad_text(199))

    def test_edits_that_cannot_be_done(self):
        text = "take a b\ndrop c\nmachine m words 1; 0: 0/0 0/1\nmachine n words 2; 0: 0/0 0/0 0/0 0/0\nmake x y plain\n"
        log = read_log(text)
        self.assertEqual(log_text(log), text)
        self.assertEqual(len(log), 5)
        self.assertEqual(outcome(bench_behind, 1, log), bad_log(0))
        self.assertEqual(outcome(bench_behind, 1, log[2:]), bad_log(1))

    def test_great_texts(self):
        program = random_program(seeded(1012), 1, 6000)
        log = (("put_program", "p", program), ("put_machine", "m", random_machine(seeded(1013), 2, 24)))
        self.assertEqual(read_log(log_text(log)), log)


class BenchBehindTest(unittest.TestCase):
    def test_numbers_of_words_come_first(self):
        for many in ODD + (3, -1):
            if type(many) is not int or not 0 <= many <= 2:
                for value in ((), [], None, (1,)):
                    self.assertEqual(outcome(bench_behind, many, value), UNFIT, many)

    def test_no_tuples(self):
        for many in (0, 1, 2):
            for value in ODD + ("", "drop a", Bench(1)):
                if type(value) is not tuple:
                    self.assertEqual(outcome(bench_behind, many, value), bad_log(0))

    def test_no_edits(self):
        for many in (0, 1, 2):
            bench = bench_behind(many, ())
            self.assertTrue(bench == Bench(many))
            self.assertEqual((bench.version, bench.many), (0, many))

    def test_items_that_are_no_edits(self):
        first = ("put_machine", "m", MINUS)
        items = ODD + (("drop",), ("drop", "m", "m"), ("make", "a", "m"), ("make", "a", "m", "sums", 1), ["drop", "m"],
                       ("take", "m"), ("put_machine", "m"), ("put_program", "m", LOW, 1), ("machine", "m", MINUS),
                       ("program", "m", LOW), ("undo",), ("names",), ((), "m"), ([], "m"), ({}, "m"), (None, "m"),
                       (1, 2, 3), "drop m", ("Drop", "m"), ("twin",), ("tells", "a", "b"), ("machine_named", "m"))
        for item in items:
            for ahead in (0, 1, 3):
                log = (first,) * ahead + (item, ("drop", "z"))
                self.assertEqual(outcome(bench_behind, 1, log), bad_log(ahead), item)

    def test_edits_that_are_refused(self):
        first = (("put_machine", "m", MINUS), ("put_program", "p", LOW))
        great = ("put_program", "g", (1, tuple([("mask", (0,) * size) for size in (8, 11, 23)])))
        for edit in (("drop", "z"), ("drop", None), ("drop", []), ("take", "x", "m"), ("take", "X", "p"),
                     ("make", "x", "p", "sums"), ("make", "x", "m", "twice"), ("make", "x", "m", "more"),
                     ("make", "x", "m", {}), ("put_machine", "x", PLUS), ("put_machine", "x", LOW),
                     ("put_program", "x", MIXED), ("put_machine", [], MINUS), ("put_program", "x", None)):
            self.assertEqual(outcome(bench_behind, 1, first + (edit,)), bad_log(2), edit)
            self.assertEqual(outcome(bench_behind, 1, first + (edit, edit, None)), bad_log(2), edit)
        self.assertEqual(outcome(bench_behind, 1, (great, ("take", "x", "g"))), bad_log(1))

    def test_too_many(self):
        log = (("put_machine", "m", MINUS),) * 200
        self.assertEqual(bench_behind(1, log).version, 200)
        self.assertEqual(outcome(bench_behind, 1, log + log[:1]), bad_log(200))
        self.assertEqual(outcome(bench_behind, 1, log + (None,)), bad_log(200))

    def test_beside_an_own_book(self):
        rng = seeded(1021)
        for many in (0, 1, 2):
            for _ in range(30):
                told, log, first = Told(many), [], None
                for _ in range(rng.randint(1, 12)):
                    log.append(drawn_edit(rng, many))
                    if first is None and came_of(told.do, log[-1]).startswith("raises"):
                        first = len(log) - 1
                if first is None:
                    bench = bench_behind(many, tuple(log))
                    self.assertEqual(bench.edits, tuple(log))
                    self.assertEqual(bench.names(), tuple(sorted(told.states[-1])))
                else:
                    self.assertEqual(outcome(bench_behind, many, tuple(log)), bad_log(first))

    def test_by_name(self):
        self.assertEqual(log_text(log=(("drop", "a"),)), "drop a\n")
        self.assertEqual(read_log(value="drop a\n"), (("drop", "a"),))
        self.assertTrue(bench_behind(value=(), many=2) == Bench(2))

    def test_what_is_handed_in_stays(self):
        rng = seeded(1022)
        for _ in range(20):
            log = drawn_log(rng, 5)
            before = repr(log)
            log_text(log)
            outcome(bench_behind, 1, log)
            self.assertEqual(repr(log), before)

    def test_each_bench_is_a_new_one(self):
        log = (("put_machine", "m", MINUS),)
        one, other = bench_behind(1, log), bench_behind(1, log)
        one.drop("m")
        self.assertEqual((one.names(), other.names()), ((), ("m",)))


if __name__ == "__main__":
    unittest.main()
