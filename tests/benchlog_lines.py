"""The line of an edit in a log, by the document's words."""

from carryladder.machinetexts import machine_text
from carryladder.programtexts import program_text


def told_line(edit):
    word, *told = edit
    if word == "put_machine":
        return "machine " + told[0] + " " + "; ".join(machine_text(told[1]).split("\n"))
    if word == "put_program":
        return "program " + told[0] + " " + "; ".join(program_text(told[1]).split("\n"))
    return word + "".join([" " + part for part in told])
