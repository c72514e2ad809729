"""Shells: every line, every answer, every refusal."""

import unittest

from carryladder.benches import Bench
from carryladder.benchlogs import bench_behind, read_log
from carryladder.errors import LadderError
from carryladder.machines import written
from carryladder.machinetexts import machine_text
from carryladder.paperjudge import paper_error
from carryladder.programtexts import program_text
from carryladder.running import result
from carryladder.shells import Shell
from tests.bench_told import small_program
from tests.helpers import (BLINK, LOW, MINUS, MIXED, ODD, PARITY, PLUS, clock, cycles, machine_of_moves,
                           random_machine, random_program, seeded, spoilt)
from tests.rungs_told import BOOKS, told_error
from tests.shell_told import ToldShell, is_refused, one_line, told_parts

LOWEST = "words 1; 0: 0/0 1/1; 1: 1/0 1/0"
GREAT = (1, tuple([("mask", (0,) * size) for size in (8, 11, 23)]))
WIDE = (1, (("mask", (0, 0, 0, 0, 1)), ("mask", (0,) * 6 + (1,)), ("and", 1, 2)))
GROWN = machine_of_moves([cycles(7), [1, 0, 2, 3, 4, 5, 6], list(range(7)), [3] * 7], [[0, 0, 1, 0, 1, 1, 1]] * 4)
# Lines that ask something of what the name a names, and of b.
ASKING = ("what a", "show a", "run a 8 200", "books a", "paper a sums", "paper a twice", "alike a b", "rings a 01",
          "steady a", "count a 5", "ones a 4", "lots a 5", "reach a 0")


def shell_with(many, *lines):
    shell = Shell()
    for line in (f"begin {many}",) + lines:
        answer = shell.say(line)
        if is_refused(answer):
            raise AssertionError(line + ": " + answer)
    return shell


def putting(name, thing):
    if type(thing[1][0][0]) is str:
        return f"program {name} {one_line(program_text(thing))}"
    return f"machine {name} {one_line(machine_text(thing))}"


class ShellCase(unittest.TestCase):
    def say_all(self, lines, shell=None, told=None):
        """Say lines to a shell and to one of the tests' own; each gets the same answers, and asking gets them again."""
        shell, told = shell or Shell(), told or ToldShell()
        answers = []
        for line in lines:
            answers.append(shell.say(line))
            self.assertEqual(answers[-1], told.say(line), line)
            self.assertIs(type(answers[-1]), str)
            if is_refused(answers[-1]) or (told_parts(line) or ("undo",))[0] in ("names", "log", "what", "show", "run",
                                                                               "books", "paper", "alike", "rings",
                                                                               "steady", "count", "ones", "lots",
                                                                               "reach"):
                self.assertEqual(shell.say(line), answers[-1])
        return answers


class LinesTest(ShellCase):
    def test_machines_and_programs(self):
        rng = seeded(1101)
        for many in (0, 1, 2):
            for _ in range(10):
                things = [random_machine(rng, many, rng.randint(1, 4)), small_program(rng, many),
                          random_machine(rng, many, 2)]
                lines = [f"begin {many}"] + [putting(name, thing) for name, thing in zip("abc", things)]
                for name in "abc":
                    lines += [f"what {name}", f"show {name}", f"books {name}", f"steady {name}"]
                    lines += [f"paper {name} {book}" for book in BOOKS]
                    lines += [f"alike {name} {other}" for other in "abcd"]
                    lines += [f"{word} {name} {number}" for word in ("count", "ones", "lots", "reach")
                              for number in (0, 1, 2, 3, 9)]
                    lines += [f"rings {name} {string}" for string in ("0", "1", "01", "13", "0123210")]
                    words = "".join([f" {rng.randrange(2 ** 20)}" for _ in range(many)])
                    lines += [f"run {name} 20{words}", f"run {name} 256{words}", f"run {name} 3{words}"]
                lines += [f"make p{name} {name} {book}" for name in "abc" for book in BOOKS]
                lines += [f"take q{name} {name}" for name in "abc"] + ["names", "log", "drop a", "undo", "names"]
                self.say_all(lines)

    def test_answers(self):
        shell = shell_with(1, "machine lows " + LOWEST, "program low words 1; v1 = minus v0; v2 = v0 and v1")
        for line, answer in (
                ("names", "low lows"), ("what lows", "machine of 2 states"), ("what low", "program of 2 rows"),
                ("show lows", LOWEST), ("show low", "words 1; v1 = minus v0; v2 = v0 and v1"), ("run low 8 44", "4"),
                ("run lows 256 " + str(2 ** 255), str(2 ** 255)), ("books low", "minus sums masks turns"),
                ("paper low minus", "stands"), ("paper lows plain", "two 1"), ("paper low prefix", "merge 0 1 1"),
                ("alike low lows", "alike"), ("rings low 1", "1"), ("rings low 000", "0; 1"), ("steady low", "1"),
                ("count low 3", "1 7"), ("ones low 2", "1"), ("lots low 3", "1 7"), ("reach low 0", "endless"),
                ("make low lows sums", "version 3"), ("take lows low", "version 4"), ("drop low", "version 5"),
                ("undo", "version 4"), ("names", "low lows"),
                ("log", "machine lows words 1; 0: 0/0 1/1; 1: 1/0 1/0\nprogram low words 1; v1 = minus v0; "
                        "v2 = v0 and v1\nmake low lows sums\ntake lows low"), ("begin 2", "begun"), ("names", "none"),
                ("log", "none"), ("undo", "nothing to undo")):
            self.assertEqual(shell.say(line), answer, line)

    def test_more_answers(self):
        shell = shell_with(1, putting("par", PARITY), putting("third", (1, (((0, 0), (1, 1)), ((2, 1), (0, 0)),
                                                                             ((1, 0), (2, 1))))),
                           putting("copy", (1, (((0, 0), (0, 1)),))),
                           putting("late", (1, (((0, 0), (1, 0)), ((0, 1), (1, 1))))),
                           putting("tick", (1, (((1, 0), (1, 0)), ((0, 1), (0, 1))))))
        for line, answer in (("books third", "none"), ("rings par 1", "0 1"), ("rings third 01", "0 1 2"),
                             ("rings third 1", "0 1; 2"), ("reach copy 0", "0"), ("reach late 0", "1"),
                             ("reach tick 0", "never"), ("reach par 0", "endless"), ("alike par copy", "apart at 2: 1"),
                             ("books copy", " ".join(BOOKS)), ("steady tick", "2"), ("what copy", "machine of 1 states"),
                             ("count tick 256", f"0 {128 * 2 ** 256}"), ("make x par twice", "unfit"),
                             ("make x par prefix", "version 6"),
                             ("run x 256 " + str(2 ** 256 - 1), str(sum(1 << k for k in range(0, 256, 2))))):
            self.assertEqual(shell.say(line), answer, line)

    def test_two_words_and_none(self):
        shell = shell_with(2, putting("plus", PLUS), "program xor words 2; v2 = v0 xor v1")
        for line, answer in (("run plus 4 11 7", "2"), ("run xor 4 11 7", "12"), ("alike plus xor", "apart at 2: 1 1"),
                             ("reach plus 1", "endless"), ("reach xor 1", "0"), ("lots plus 2", "10 6"),
                             ("rings plus 0312", "1"), ("rings plus 12", "0; 1"), ("run plus 4 11", "unfit"),
                             ("run plus 4 11 7 0", "unfit"), ("run plus 4", "unfit"), ("reach plus 2", "unfit")):
            self.assertEqual(shell.say(line), answer, line)
        shell = shell_with(0, putting("blink", BLINK), "program ones words 0; v0 = ones")
        for line, answer in (("run blink 6", "42"), ("run ones 3", "7"), ("alike blink ones", "apart at 1:"),
                             ("rings blink 000", "0 1"), ("rings blink 01", "unfit"), ("reach blink 0", "unfit"),
                             ("run blink 6 0", "unfit"), ("count blink 5", "0 2"), ("steady blink", "2")):
            self.assertEqual(shell.say(line), answer, line)

    def test_papers(self):
        rng = seeded(1102)
        for many in (1, 2):
            for _ in range(12):
                machine = random_machine(rng, many, 3)
                shell = shell_with(many, putting("m", machine))
                books = shell.say("books m").split(" ")
                for book in BOOKS:
                    answer = shell.say("paper m " + book)
                    self.assertEqual(answer == "stands", book in books)
                    if answer != "stands":
                        word, *items = answer.split(" ")
                        kinds = {"two": "q", "merge": "qqq", "odd": "qs", "both": "qqs", "back": "qss", "ring": "qs",
                                 "even": "qss"}[word]
                        value = (word,) + tuple([int(item) if kind == "q" else tuple([int(x) for x in item])
                                                 for item, kind in zip(items, kinds)])
                        self.assertIsNone(paper_error(machine, book, value))
                        self.assertIsNone(told_error(machine, book, value))

    def test_texts(self):
        shell = shell_with(1)
        for line, answer in (
                ("machine a ", "bad text: 0"), ("program a ", "bad text: 1"), ("machine a  ", "bad text: 0"),
                ("machine a words 1", "bad machine: form"), ("machine a words 3; 0: 0/0", "bad machine: many"),
                ("machine a words 1; 0: 0/0", "bad machine: row 0"),
                ("machine a words 1; 0: 0/0 0/2", "bad machine: letter 0 1"),
                ("machine a words 1; 1: 0/0 0/1", "bad text: 1"), ("machine a words 1;0: 0/0 0/1", "bad text: 0"),
                ("machine a words 1\n0: 0/0 0/1", "version 1"), ("machine a \n words  1 ;  0:  0/0 0/1; ", "version 2"),
                ("machine a \n words  1; \n 0:  0/0 0/1; ", "version 3"), ("machine a ; ; words 1; 0: 0/0 0/1", "version 4"),
                ("machine a words 1; x", "bad text: 1"), ("machine a words 1; 0: 0/0 0/1; \n\n; 2: 0/0", "bad text: 5"),
                ("program a words 1", "bad text: 2"), ("program a words 1; v1 = not v1", "bad text: 2"),
                ("program a words 1; v1 = not v0; ", "bad text: 3"), ("program a  words 1; v1 = not v0", "bad text: 1"),
                ("program a words 1\nv1 = not v0; v2 = not v1", "version 5"), ("program a words 1;v1 = not v0", "bad text: 1"),
                ("program a words 2; v2 = not v0", "unfit"), ("machine a words 0; 0: 0/0", "unfit"),
                ("machine a words 0; 0: 1/0", "bad machine: letter 0 0"), ("names", "a")):
            self.assertEqual(shell.say(line), answer, line)

    def test_spoilt_texts(self):
        rng = seeded(1103)
        for _ in range(200):
            many = rng.randrange(3)
            thing = rng.choice((random_machine(rng, many, 3), small_program(rng, many)))
            line = putting("m", thing)
            self.say_all([f"begin {many}", spoilt(rng, line), line, spoilt(rng, line), "log"])


class NoSuchLineTest(ShellCase):
    def setUp(self):
        self.lines = ["begin 1", putting("a", MINUS), putting("b", LOW)]

    def no_such(self, *lines):
        for lot in ([], self.lines):
            answers = self.say_all(lot + list(lines))[len(lot):]
            self.assertEqual(answers, ["no such line"] * len(lines), lines)

    def test_values_of_all_kinds(self):
        self.no_such(*[value for value in ODD if type(value) is not str])
        self.no_such(("names",), ["names"], b"names", "", " ", "\n", "words", "ab", Bench(1))

    def test_blanks_capitals_and_line_feeds(self):
        for line in ASKING + ("names", "log", "undo", "begin 1", "take c b", "make c a minus", "drop a"):
            word = line.split(" ")[0]
            self.no_such(" " + line, line + " ", line + "\n", "\n" + line, line.upper(), line.capitalize(), line + "\t",
                         line + " x", line.replace(" ", "  ", 1) + ("" if " " in line else "  "), word + "s",
                         line + "\r", line + ";")
            if " " in line:
                self.no_such(word, word + " ", line.replace(" ", "\n", 1), line.replace(" ", "\t", 1))

    def test_lines_that_want_a_text(self):
        self.no_such("machine", "machine a", "program", "program a", "machine A words 1", "program  words 1",
                     "machine a1 words 1; 0: 0/0 0/1", "machine  a words 1", " machine a words 1", "Machine a words 1",
                     "machine abcdefghijklmnopqrstu words 1; 0: 0/0 0/1", "machine a\nwords 1")

    def test_names(self):
        for name in ("A", "a1", "", "abcdefghijklmnopqrstu", "a_", "\u00e4", "a\n", "a;", "1", "a-b"):
            self.no_such(*[line.replace(" a", " " + name, 1) for line in ASKING])
            self.no_such(f"take {name} a", f"take a {name}", f"make {name} a sums", f"make a {name} sums", f"drop {name}")

    def test_books(self):
        for book in ("Sums", "sum", "sums ", "", "more", "sums sums", "0"):
            self.no_such("paper a " + book, "make c a " + book)

    def test_numerals(self):
        figures = "1" + "0" * 77
        for numeral in ("00", "01", "-1", "+1", "1.", "1_0", "", "a", figures + "0", "\u0661", "0x1", "1 ", "9" * 79,
                        "0" * 78):
            self.no_such("begin " + numeral, "ones a " + numeral, "count a " + numeral, "lots a " + numeral,
                         "reach a " + numeral, "run a 8 " + numeral, f"run a {numeral} 8", f"run a 8 1 {numeral} 1")
        for numeral in (figures, "9" * 78):
            answers = self.say_all(self.lines + [f"{word} {numeral}" for word in ("begin", "ones a", "count a", "lots a",
                                                                                  "reach a", "run a 8", "run a")])
            self.assertEqual(answers[3:], ["unfit"] * 7)

    def test_numbers_of_numerals(self):
        self.no_such("begin", "begin 1 1", "run a", "run", "ones a", "ones a 1 1", "count a 1 1", "lots a 1 1", "reach a")
        self.assertEqual(self.say_all(self.lines + ["run a 1", "run a 1 1", "run a 1 1 1", "run a 1" + " 1" * 500])[3:],
                         ["unfit", "1", "unfit", "unfit"])

    def test_strings(self):
        self.no_such("rings a", "rings a ", "rings a 4", "rings a 0 1", "rings a 0,1", "rings a -1", "rings a 01x",
                     "rings a " + "0" * 401, "rings a \u0661")
        answers = self.say_all(self.lines + ["rings a " + "0" * 400, "rings a " + "0" * 399 + "2", "rings a 3"])
        self.assertEqual(answers[3:], ["0; 1", "unfit", "unfit"])

    def test_words_that_begin_no_line(self):
        self.no_such("twin", "help", "put_machine a words 0; 0: 0/0", "tells b a", "version", "edits", "many", "word a",
                     "least a", "begun", "unmake a", "what", "show", "alike a", "alike a b c", "steady a b", "books a b")


class NoBenchTest(ShellCase):
    def test_before_the_first_bench(self):
        lines = list(ASKING) + ["names", "log", "undo", "make c a sums", "take c a", "drop a", "machine a x", "program a ",
                                "run a 0 0 0", "ones a 999", "rings a 3"]
        self.assertEqual(self.say_all(lines), ["no bench"] * len(lines))
        self.assertEqual(self.say_all(["begin 3", "names", "begin 9", "names"]), ["unfit", "no bench"] * 2)

    def test_begin(self):
        for many in (0, 1, 2):
            self.assertEqual(self.say_all([f"begin {many}", "names", "log"]), ["begun", "none", "none"])
        answers = self.say_all(["begin 1", putting("a", MINUS), "begin 3", "names", "begin 2", "names", "undo", "show a"])
        self.assertEqual(answers, ["begun", "version 1", "unfit", "a", "begun", "none", "nothing to undo", "unfit"])


class RefusalsTest(ShellCase):
    def setUp(self):
        self.lines = ["begin 1", putting("a", MINUS), putting("b", LOW), putting("great", GREAT), putting("wide", WIDE)]

    def refused(self, answer, *lines):
        came = self.say_all(self.lines + list(lines))
        self.assertEqual(came[len(self.lines):], [answer] * len(lines))

    def test_names_of_nothing(self):
        self.refused("unfit", *[line.replace(" a", " z", 1) for line in ASKING])
        self.refused("unfit", "alike a z", "alike z a", "alike z z", "take c z", "take c a", "make c z sums", "make c b sums",
                     "drop z")

    def test_numbers(self):
        self.refused("unfit", "count a 0", "count a 257", "lots a 0", "lots a 257", "ones a 256", "reach a 1", "reach a 2",
                     "run a 0 0", "run a 257 0", "run a 1 2", "run a 8 256", "run b 8 256", "run a 8", "run a 8 1 1",
                     "rings a 2", "rings b 0013")
        came = self.say_all(self.lines + ["count a 256", "lots a 256", "ones a 255", "run a 256 1", "reach a 0"])
        self.assertFalse([answer for answer in came if is_refused(answer)])

    def test_what_machines_of_programs_raise(self):
        for name, answer in (("great", "too many: 2000"), ("wide", "too many: 24")):
            self.refused(answer, f"books {name}", f"paper {name} sums", f"alike {name} a", f"alike a {name}", f"rings {name} 0",
                         f"steady {name}", f"count {name} 1", f"ones {name} 0", f"lots {name} 256", f"reach {name} 0",
                         f"take c {name}")
            self.refused("unfit", f"count {name} 0", f"count {name} 257", f"ones {name} 256", f"lots {name} 0",
                         f"reach {name} 1", f"rings {name} 02", f"alike {name} z", f"alike z {name}", f"run {name} 8",
                         f"run {name} 0 1", f"run {name} 1 2", f"take z{name} z", f"make c {name} sums")
        self.refused("too many: 2000", "alike great wide")
        self.refused("too many: 24", "alike wide great")
        self.assertEqual(self.say_all(self.lines + ["run great 8 1", "what great", "what wide"])[5:],
                         ["0", "program of 3 rows", "program of 3 rows"])

    def test_too_many_turnings(self):
        self.lines = ["begin 2", putting("a", GROWN)]
        self.refused("too many: 2000", "books a", "steady a", *[f"paper a {book}" for book in ("sums", "masks", "turns")],
                     *[f"make c a {book}" for book in ("sums", "masks", "turns")])
        self.refused("unfit", "make c a prefix", "make c a twice", "make c a plain", "make c b sums")

    def test_too_many_edits(self):
        self.lines += ["take c b"] * 196
        self.refused("too many edits", "take c b", "drop c", "make d a sums", putting("a", MINUS), putting("d", LOW))
        self.refused("unfit", "take c a", "drop z", "make d b sums", "make d a twice", putting("d", PLUS), putting("d", MIXED))
        self.refused("bad text: 0", "machine a x")
        self.refused("bad machine: form", "machine a words 1")
        self.refused("bad text: 2", "program a words 1")
        self.refused("too many: 24", "take c wide")
        self.refused("too many: 2000", "take c great")
        self.assertEqual(self.say_all(self.lines + ["undo", "drop c", "drop a"])[-4:],
                         ["version 200", "version 199", "version 200", "too many edits"])

    def test_nothing_to_undo(self):
        self.assertEqual(self.say_all(["begin 1", "undo", "take a b", "undo", putting("a", MINUS), "undo", "undo"]),
                         ["begun", "nothing to undo", "unfit", "nothing to undo", "version 1", "version 0",
                          "nothing to undo"])


class HoldsTest(ShellCase):
    def test_the_log_said_again(self):
        rng = seeded(1141)
        for many in (0, 1, 2):
            for _ in range(8):
                shell, told = Shell(), ToldShell()
                lines = [f"begin {many}"]
                for _ in range(25):
                    way = rng.randrange(7)
                    one, other = rng.choice("abc"), rng.choice("abc")
                    lines.append((putting(one, random_machine(rng, many, 2)), putting(one, small_program(rng, many)),
                                  f"make {one} {other} {rng.choice(BOOKS)}", f"take {one} {other}", f"drop {one}", "undo",
                                  f"make {one} {other} turns")[way])
                self.say_all(lines, shell, told)
                log = shell.say("log")
                if log == "none":
                    self.assertEqual(told.bench.edits, [])
                    continue
                self.assertEqual(read_log(log + "\n"), tuple(told.bench.edits))
                bench = bench_behind(many, read_log(log))
                again = Shell()
                self.assertEqual(again.say(f"begin {many}"), "begun")
                for k, line in enumerate(log.split("\n")):
                    self.assertEqual(again.say(line), f"version {k + 1}")
                for line in ["names", "log"] + [f"show {name}" for name in bench.names()]:
                    self.assertEqual(again.say(line), shell.say(line))
                self.assertEqual(again.say("names"), " ".join(bench.names()) or "none")

    def test_asking_changes_nothing(self):
        lines = ["begin 1", putting("a", MINUS), putting("b", LOW)]
        shell, told = Shell(), ToldShell()
        self.say_all(lines, shell, told)
        first = self.say_all(list(ASKING) + ["names", "log"], shell, told)
        self.say_all(["undo a", "drop z", "machine a x", "begin 3", "make c a twice", None], shell, told)
        self.assertEqual(self.say_all(list(ASKING) + ["names", "log"], shell, told), first)

    def test_shells_go_their_own_ways(self):
        one, other = shell_with(1, putting("a", MINUS)), Shell()
        self.assertEqual((other.say("names"), one.say("names")), ("no bench", "a"))
        other.say("begin 2")
        self.assertEqual((other.say("names"), one.say("names"), one.say("run a 4 1")), ("none", "a", "15"))

    def test_made_by_lines(self):
        rng = seeded(1142)
        for _ in range(20):
            machine = random_machine(rng, 1, 3)
            shell = shell_with(1, putting("m", machine))
            for book in shell.say("books m").split(" "):
                if book != "none":
                    self.assertTrue(shell.say("make p m " + book).startswith("version "))
                    self.assertEqual(shell.say("alike p m"), "alike")
                    word = rng.randrange(2 ** 64)
                    self.assertEqual(shell.say(f"run p 64 {word}"), str(written(machine, 64, (word,))))

    def test_great_programs_and_clocks(self):
        program = random_program(seeded(1143), 1, 3000, ("and", "or", "xor", "not", "plus"))
        shell = shell_with(1, putting("p", program))
        self.assertEqual(shell.say("what p"), "program of 3000 rows")
        self.assertEqual(shell.say("run p 256 12345"), str(result(program, 256, (12345,))))
        shell = shell_with(0, putting("c", clock((0,) * 23 + (1,))))
        self.assertEqual(shell.say("make p c masks"), "version 2")
        self.assertEqual(shell.say("count p 256"), "0 10")

    def test_by_name(self):
        shell = Shell()
        self.assertEqual(shell.say(line="begin 1"), "begun")
        self.assertEqual(shell.say(line=None), "no such line")
        with self.assertRaises(LadderError):
            bench_behind(3, ())


if __name__ == "__main__":
    unittest.main()
