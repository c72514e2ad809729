"""program_text, read_program."""

import re
import unittest

from carryladder.errors import BadText
from carryladder.programtexts import program_text, read_program
from carryladder.running import result
from tests.helpers import (HUGE, LOW, MIXED, ODD, ONE, THREE, TWO, outcome, raises, random_program, random_words,
                           seeded, spoilt)

LONG = "1" * 5000
NUMBER = "(0|[1-9][0-9]*)"


def told_row(told, top):
    """The instruction of what stands behind the equals sign, or None; operands are below top."""
    found = None
    if told in ONE:
        found = (told,)
    elif re.fullmatch("mask( [01]){1,24}", told):
        return ("mask", tuple([int(bit) for bit in told.split(" ")[1:]]))
    elif match := re.fullmatch(f"({'|'.join(TWO)}) v{NUMBER}", told):
        found = (match[1], match[2])
    elif match := re.fullmatch(f"v{NUMBER} ({'|'.join(THREE)}) v{NUMBER}", told):
        found = (match[2], match[1], match[3])
    if found is None or any(len(number) > 6 or int(number) >= top for number in found[1:]):
        return None
    return found[:1] + tuple([int(number) for number in found[1:]])


def told_reading(text):
    """The outcome of read_program, by the document's words."""
    lines = text.split("\n")
    if lines[0] not in ("words 0", "words 1", "words 2"):
        return raises(BadText, line=1)
    many, rows = int(lines[0][6:]), []
    for at, line in enumerate(lines[1:], start=2):
        top = many + len(rows)
        row = told_row(line[len(f"v{top} = "):], top) if line.startswith(f"v{top} = ") else None
        if row is None or len(rows) == 6000:
            return raises(BadText, line=at)
        rows.append(row)
    if not rows:
        return raises(BadText, line=len(lines) + 1)
    return repr((many, tuple(rows)))


class ProgramTextTest(unittest.TestCase):
    def test_texts(self):
        self.assertEqual(program_text((0, (("zero",), ("ones",)))), "words 0\nv0 = zero\nv1 = ones")
        for word in TWO:
            self.assertEqual(program_text((1, ((word, 0),))), f"words 1\nv1 = {word} v0")
        for word in THREE:
            self.assertEqual(program_text((2, ((word, 1, 0),))), f"words 2\nv2 = v1 {word} v0")
        self.assertEqual(program_text((0, (("mask", (0,)),))), "words 0\nv0 = mask 0")
        bits = (1, 0, 0) * 8
        self.assertEqual(program_text((1, (("mask", bits),))), "words 1\nv1 = mask" + " 1 0 0" * 8)

    def test_numbers_of_more_figures(self):
        lines = program_text((1, tuple([("plus", k, k // 2) for k in range(6000)]))).split("\n")
        self.assertEqual(len(lines), 6001)
        self.assertEqual(lines[10], "v10 = v9 plus v4")
        self.assertEqual(lines[6000], "v6000 = v5999 plus v2999")

    def test_there_and_back(self):
        rng = seeded(61)
        texts = {}
        for _ in range(300):
            program = random_program(rng, rng.randrange(3), rng.randint(1, 30))
            text = program_text(program)
            self.assertEqual(outcome(read_program, text), repr(program))
            self.assertEqual(program_text(read_program(text)), text)
            words = random_words(rng, program[0], 64)
            self.assertEqual(result(read_program(text), 64, words), result(program, 64, words))
            texts[program] = text
        self.assertEqual(len(set(texts.values())), len(texts))

    def test_chains_there_and_back(self):
        rng = seeded(62)
        for length in (1200, 6000):
            rows = []
            for k in range(length):
                word = rng.choice(TWO + THREE)
                rows.append((word, k) if word in TWO else (word, k, rng.randrange(k + 1)))
            program = (1, tuple(rows))
            self.assertEqual(read_program(program_text(program)), program)


class ReadProgramTest(unittest.TestCase):
    def check(self, text, told):
        self.assertEqual(outcome(read_program, text), told, repr(text)[:200])
        self.assertEqual(told_reading(text), told, repr(text)[:200])

    def bad(self, line, *texts):
        for text in texts:
            self.check(text, raises(BadText, line=line))

    def test_no_str(self):
        for value in ODD + (LOW, MIXED, ["words 1", "v1 = not v0"], ("words 1\nv1 = not v0",), HUGE):
            if not isinstance(value, str):
                self.assertEqual(outcome(read_program, value), raises(BadText, line=0))

    def test_first_lines(self):
        for line in ("", " ", "words", "words ", "words 3", "words 9", "words 10", "words 00", "words 01", "words -1",
                     "words +1", " words 1", "words 1 ", "words  1", "Words 1", "word 1", "words1", "words 1 1",
                     "words x", "v1 = not v0", "words " + LONG, "words 0" + LONG, "words " + "0" * 5000, "words 1\r"):
            self.bad(1, line, line + "\nv1 = not v0", line + "\nx")
        self.bad(1, "\nwords 1\nv1 = not v0", " \nwords 1")

    def test_a_row_is_missing(self):
        self.bad(2, "words 0", "words 1", "words 2")

    def test_empty_lines(self):
        self.bad(2, "words 1\n", "words 1\n\n", "words 1\n\nv1 = not v0", "words 1\n \nv1 = not v0")
        self.bad(3, "words 1\nv1 = not v0\n", "words 1\nv1 = not v0\n\n", "words 1\nv1 = not v0\n ",
                 "words 1\nv1 = not v0\n\nv2 = not v1")

    def test_beginnings_of_rows(self):
        for line in ("v0 = not v0", "v2 = not v0", "v01 = not v0", "V1 = not v0", "1 = not v0", "v 1 = not v0",
                     " v1 = not v0", "v1  = not v0", "v1= not v0", "v1 =not v0", "v1 == not v0", "v1 not v0",
                     "v1 : not v0", "v1 =  not v0", "not v0", "v1", "v1 =", "v1 = ", "=", "v = not v0",
                     "v-1 = not v0", "v+1 = not v0", "vv1 = not v0", "w1 = not v0", "v1\t= not v0",
                     f"v{LONG} = not v0", f"v0{LONG} = not v0", "v1 = v0"):
            self.bad(2, "words 1\n" + line, "words 1\n" + line + "\nv2 = zero")

    def test_instructions_that_are_none(self):
        for told in ("nor v0", "Not v0", "not", "not ", "not v0 ", "not v0 v0", "not  v0", "v0 not", "not v0 and v0",
                     "v0 not v0", "and v0 v0", "v0 and", "and v0", "v0 v0 and", "v0 and v0 ", "v0  and v0",
                     "v0 and  v0", "v0 and v0 and v0", "v0 nand v0", "v0 & v0", "zero ", "zero v0", "zeros", "one",
                     "ones 1", "Ones", "v0 zero v0", "v0 mask v0", "v0 = v0", "twice", "minus 0", "prefix",
                     "plus v0 v0", "less", "= zero", "zeroes", "ones\t", "v0 and v0v0", "", "v0", "0 and 0", "v0 v0",
                     "v0 v0 v0"):
            self.bad(2, "words 1\nv1 = " + told, f"words 1\nv1 = {told}\nv2 = zero")
            self.bad(3, "words 1\nv1 = zero\nv2 = " + told)

    def test_operands(self):
        for name in ("v1", "v2", "v9", "v10", "v00", "v01", "v-1", "v+0", "v", "0", "V0", "v0,", "v 0", "w0", "vv0",
                     "v0x", "v" + LONG, "v" + "0" * 5000, "v" + str(HUGE), "words"):
            for word in TWO:
                self.bad(2, f"words 1\nv1 = {word} {name}")
            for word in THREE:
                self.bad(2, f"words 1\nv1 = {name} {word} v0", f"words 1\nv1 = v0 {word} {name}")

    def test_how_far_operands_go(self):
        for many in (0, 1, 2):
            for k in range(4):
                for operand in range(8):
                    rows = (("ones",),) * k + (("not", operand),)
                    ahead = [f"v{many + at} = ones" for at in range(k)]
                    lines = [f"words {many}"] + ahead + [f"v{many + k} = not v{operand}"]
                    told = repr((many, rows)) if operand < many + k else raises(BadText, line=k + 2)
                    self.check("\n".join(lines), told)

    def test_masks(self):
        for told in ("mask", "mask ", "mask 2", "mask 0 ", "mask  0", "mask 0  1", "mask 00", "mask 01", "mask 0,1",
                     "mask -1", "mask v0", "mask 0 1 2", "mask 0 x", "mask 1 1 +1", "mask" + " 0" * 25,
                     "mask " + LONG, "mask 1 " + LONG, "mask " + "0" * 5000, "mask 0 v0", "mask (0, 1)", "mask True",
                     "Mask 0", "mask0"):
            self.bad(2, "words 0\nv0 = " + told, f"words 0\nv0 = {told}\nv1 = ones")
        for size in range(1, 25):
            bits = (1,) + (0, 1) * 12
            text = "words 2\nv2 = mask " + " ".join([str(bit) for bit in bits[:size]])
            self.check(text, repr((2, (("mask", bits[:size]),))))

    def test_the_first_line_that_cannot_stand(self):
        self.bad(3, "words 1\nv1 = not v0\nv2 = not v2\nv3 = not v9")
        self.bad(4, "words 1\nv1 = not v0\nv2 = not v1\nv4 = not v2\nv5")
        self.bad(2, "words 1\nv2 = not v0\nv1 = not v0")
        self.bad(3, "words 1\nv1 = not v0\nv1 = not v0")
        self.bad(3, "words 1\nv1 = not v0\nwords 1")
        self.bad(2, "words 1\nwords 1\nv1 = not v0")

    def test_too_many_rows(self):
        lines = [f"v{k} = ones" for k in range(6003)]
        self.assertEqual(read_program("\n".join(["words 0"] + lines[:6000])), (0, (("ones",),) * 6000))
        for count in (6001, 6002, 6003):
            self.bad(6002, "\n".join(["words 0"] + lines[:count]))
        self.bad(6002, "\n".join(["words 0"] + lines[:6000]) + "\n")
        self.bad(6001, "\n".join(["words 0"] + lines[:5999] + ["x"] + lines[6000:]))

    def test_spoilt_texts(self):
        rng = seeded(63)
        rights = 0
        for _ in range(8000):
            text = spoilt(rng, program_text(random_program(rng, rng.randrange(3), rng.randint(1, 5))))
            told = told_reading(text)
            self.assertEqual(outcome(read_program, text), told, repr(text))
            rights += not told.startswith("raises")
        self.assertGreater(rights, 100)


if __name__ == "__main__":
    unittest.main()
