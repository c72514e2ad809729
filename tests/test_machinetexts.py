"""machine_text, read_machine."""

import re
import unittest

from carryladder.errors import BadMachine, BadText, Unfit
from carryladder.machines import machine_error
from carryladder.machinetexts import machine_text, read_machine
from tests.helpers import (BLINK, COPY, HUGE, MINUS, ODD, PARITY, PLUS, clock, outcome, raises, random_machine, seeded,
                           spoilt)

NUMERAL = "(?:0|[1-9][0-9]{0,2})"
LONG = "1" * 5000


def told_reading(text):
    """The outcome of read_machine, by the document's words."""
    many, rows = None, []
    for line, signs in enumerate(text.split("\n")):
        parts = re.findall("[^ ]+", signs)
        if not parts:
            continue
        told = " ".join(parts)
        if many is None:
            if not re.fullmatch(f"words {NUMERAL}", told):
                return raises(BadText, line=line)
            many = int(parts[1])
        else:
            wanted = f"{NUMERAL}:( {NUMERAL}/{NUMERAL})*"
            if not re.fullmatch(wanted, told) or int(parts[0][:-1]) != len(rows):
                return raises(BadText, line=line)
            rows.append(tuple([tuple([int(part) for part in pair.split("/")]) for pair in parts[1:]]))
    if many is None:
        return raises(BadText, line=0)
    machine = (many, tuple(rows))
    error = machine_error(machine)
    return repr(machine) if error is None else raises(BadMachine, error=error)


class MachineTextTest(unittest.TestCase):
    def test_texts(self):
        self.assertEqual(machine_text(COPY), "words 1\n0: 0/0 0/1")
        self.assertEqual(machine_text(PARITY), "words 1\n0: 0/0 1/1\n1: 1/1 0/0")
        self.assertEqual(machine_text(PLUS), "words 2\n0: 0/0 0/1 0/1 1/0\n1: 0/1 1/0 1/0 1/1")
        self.assertEqual(machine_text(BLINK), "words 0\n0: 1/0\n1: 0/1")

    def test_numbers_of_two_figures(self):
        lines = machine_text(clock((0,) * 23 + (1,))).split("\n")
        self.assertEqual(len(lines), 25)
        self.assertEqual(lines[9:12], ["8: 9/0", "9: 10/0", "10: 11/0"])
        self.assertEqual(lines[24], "23: 0/1")

    def test_there_and_back(self):
        rng = seeded(31)
        texts = {}
        for _ in range(300):
            machine = random_machine(rng, rng.randrange(3), rng.choice((1, 2, 3, 11, 24)))
            text = machine_text(machine)
            self.assertEqual(outcome(read_machine, text), repr(machine))
            texts[machine] = text
        self.assertEqual(len(set(texts.values())), len(texts))


class ReadMachineTest(unittest.TestCase):
    def check(self, text, told):
        self.assertEqual(outcome(read_machine, text), told, repr(text)[:200])
        self.assertEqual(told_reading(text), told, repr(text)[:200])

    def bad_text(self, line, *texts):
        for text in texts:
            self.check(text, raises(BadText, line=line))

    def bad_machine(self, error, *texts):
        for text in texts:
            self.check(text, raises(BadMachine, error=error))

    def test_no_str(self):
        for value in ODD + (["words 1\n0: 0/0 0/1"], ("words 1",), MINUS, HUGE):
            if not isinstance(value, str):
                self.assertEqual(outcome(read_machine, value), raises(Unfit))

    def test_blanks_and_empty_lines(self):
        for text in ("words 1\n0: 0/0 0/1", " words 1\n0: 0/0 0/1", "words    1   \n   0:   0/0  0/1  ",
                     "\n\nwords 1\n\n   \n0: 0/0 0/1\n\n", "words 1\n0: 0/0 0/1\n",
                     " \n words 1 \n \n 0: 0/0 0/1 \n "):
            self.check(text, repr(COPY))

    def test_blanks_and_empty_lines_put_into_texts(self):
        rng = seeded(32)
        for _ in range(200):
            machine = random_machine(rng, rng.randrange(3), rng.choice((1, 2, 12, 24)))
            text = ""
            for sign in machine_text(machine):
                if sign == " ":
                    sign = " " * rng.randint(1, 3)
                elif sign == "\n":
                    sign = " " * rng.randrange(3) + "\n" + rng.choice(("", "\n", "  \n\n")) + " " * rng.randrange(3)
                text += sign
            self.check("\n \n"[:rng.randrange(4)] + text + " \n"[:rng.randrange(3)], repr(machine))

    def test_no_line_has_parts(self):
        self.bad_text(0, "", " ", "\n", "\n\n\n", "  \n   \n ")

    def test_first_lines(self):
        for line in ("words", "words 1 1", "words 1 words", "Words 1", "WORDS 1", "word 1", "words1", "words: 1", "1",
                     "1 words", "words 01", "words 00", "words 1000", "words -1", "words +1", "words 1.", "words 1/1",
                     "words x", "words one", "words 1:", "0: 0/0 0/1", "words \u00b2", "words \u0663",
                     "words " + LONG, "words 0" + LONG):
            self.bad_text(0, line, line + "\n0: 0/0 0/1")
            self.bad_text(2, "\n \n" + line + "\n0: 0/0 0/1")

    def test_beginnings_of_rows(self):
        for part in ("0", "0 :", "00:", "000:", "1:", "2:", ":", ":0", "0::", "-0:", "+0:", "0;", "a:", "0:0/0",
                     "words", "0:,", "q0:", LONG + ":", "0" * 5000 + ":"):
            self.bad_text(1, f"words 1\n{part} 0/0 0/1", f"words 1\n{part}")
            self.bad_text(3, f"words 1\n\n \n{part} 0/0 0/1", f"words 3\n\n \n{part} 0/0 0/1")

    def test_rows_left_out_twice_and_exchanged(self):
        lines = machine_text(clock((0,) * 12)).split("\n")
        self.bad_text(12, "\n".join(lines[:12] + lines[11:]))
        self.bad_text(10, "\n".join(lines[:10] + lines[11:]))
        self.bad_text(3, "\n".join(lines[:3] + [lines[4], lines[3]] + lines[5:]))
        self.bad_text(1, "\n".join([lines[0]] + lines[2:]))
        self.bad_text(0, "\n".join(lines[1:]))
        self.bad_text(1, "\n".join([lines[0]] + lines))
        self.bad_text(13, "\n".join(lines + ["13: 0/0"]))
        self.bad_text(13, "\n".join(lines + ["words 0"]))

    def test_steps(self):
        for part in ("0", "/", "0/", "/0", "0//0", "0/0/0", "00/0", "0/00", "01/0", "0/01", "-1/0", "0/-1", "+0/0",
                     "a/0", "0/b", "0:0", "0-0", "0,0", "0.0", "0/0,", "(0,0)", "1000/0", "0/1000", LONG + "/0",
                     "0/" + LONG, "0" * 5000 + "/0", "words"):
            self.bad_text(1, f"words 1\n0: {part} 0/1", f"words 1\n0: 0/0 {part}", f"words 1\n0: 0/0 0/1 {part}")
            self.bad_text(4, f"words 1\n0: 0/0 0/1\n\n\n1: 0/0 {part}")
        self.bad_text(1, "words 1\n0: 0 /0 0/1", "words 1\n0: 0/ 0 0/1", "words 1\n0: 0 / 0")

    def test_the_first_line_is_told(self):
        self.bad_text(2, "words 1\n0: 0/0\n2: 0/0\n3: x", "words 7\n0:\n1", "words 1\n0: 9/9 9/9\n1: 1/1 1/1/1")
        self.bad_text(0, "words x\n0")

    def test_texts_ahead_of_machines(self):
        self.bad_text(3, "words 3\n0: 7/7\n1:\n2: 0/0 0/")

    def test_many(self):
        for many in (3, 4, 9, 10, 99, 999):
            self.bad_machine("many", f"words {many}\n0: 0/0", f"words {many}\n0:", f"words {many}\n0: 9/9 9/9")

    def test_form(self):
        self.bad_machine("form", "words 1", "words 0\n", "words 2\n\n", "words 999")
        for rows in (25, 26, 100, 999, 1000):
            lines = [f"{q}: 0/0" for q in range(rows)]
            self.bad_machine("form", "\n".join(["words 0"] + lines), "\n".join(["words 3"] + lines))
        lines = [f"{q}: 0/0" for q in range(24)]
        self.check("\n".join(["words 0"] + lines), repr((0, (((0, 0),),) * 24)))

    def test_1001_rows(self):
        lines = [f"{q}:" for q in range(1001)]
        self.bad_text(1001, "\n".join(["words 0"] + lines), "\n".join(["words 9"] + lines + ["x"]))
        self.bad_text(1003, "\n\n" + "\n".join(["words 0"] + lines))
        self.bad_text(2002, "words 0\n\n" + "\n\n".join(lines) + "\n")

    def test_row_lengths(self):
        for many in (0, 1, 2):
            for size in range(6):
                text = f"words {many}\n0:" + " 0/0" * size
                if size != 2 ** many:
                    self.bad_machine(("row", 0), text, text + "\n1: 7/7")
                else:
                    self.check(text, repr((many, (((0, 0),) * size,))))
        self.bad_machine(("row", 1), "words 1\n0: 9/9 0/0\n1: 0/0\n2: 0/0 0/0 0/0")

    def test_states_and_bits_beyond(self):
        for part in ("2/0", "24/0", "99/0", "999/0", "0/2", "0/10", "1/999"):
            self.bad_machine(("letter", 0, 0), f"words 1\n0: {part} 0/1\n1: 0/0 1/1")
            self.bad_machine(("letter", 1, 1), f"words 1\n0: 0/0 0/1\n\n1: 0/0 {part}")

    def test_spoilt_texts(self):
        rng = seeded(33)
        kinds = set()
        for _ in range(6000):
            text = spoilt(rng, machine_text(random_machine(rng, rng.randrange(3), rng.choice((1, 2, 3, 11)))))
            told = told_reading(text)
            self.assertEqual(outcome(read_machine, text), told, repr(text))
            kinds.add(told[:20])
        self.assertTrue({"raises BadText[('lin", "raises BadMachine[('"} < kinds)


if __name__ == "__main__":
    unittest.main()
