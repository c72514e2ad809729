"""A shell, which works a bench by lines."""

from carryladder.answers import ASKING
from carryladder.benches import Bench
from carryladder.errors import BadMachine, BadProgram, BadText, NothingToUndo, TooMany, TooManyEdits, Unfit
from carryladder.machinetexts import read_machine
from carryladder.onelines import in_lines
from carryladder.programtexts import read_program
from carryladder.shelllines import parts_of


class Shell:
    """A shell; it has no bench until a line begins one."""

    def __init__(self):
        self._bench = None

    def say(self, line):
        """Do what a line says, and return the answer."""
        found = parts_of(line)
        if found is None:
            return "no such line"
        word, parts = found
        if self._bench is None and word != "begin":
            return "no bench"
        try:
            return self._answer(word, parts)
        except Unfit:
            return "unfit"
        except BadMachine as no_machine:
            return f"bad machine: {_told(no_machine.error)}"
        except BadProgram as no_program:
            return f"bad program: {_told(no_program.error)}"
        except BadText as no_text:
            return f"bad text: {no_text.line}"
        except TooMany as refusal:
            return f"too many: {refusal.limit}"
        except TooManyEdits:
            return "too many edits"
        except NothingToUndo:
            return "nothing to undo"

    def _answer(self, word, parts):
        if word == "begin":
            self._bench = Bench(parts[0])
            return "begun"
        if word in ASKING:
            asking = ASKING[word]
            return asking(self._bench, *parts)
        version = _edited(self._bench, word, parts)
        return f"version {version}"


def _edited(bench, word, parts):
    """Do the edit of a line, or undo one, and return the version behind it."""
    if word == "undo":
        return bench.undo()
    if word == "machine":
        return bench.put_machine(parts[0], read_machine(in_lines(parts[1])))
    if word == "program":
        return bench.put_program(parts[0], read_program(in_lines(parts[1])))
    if word == "make":
        return bench.make(*parts)
    if word == "take":
        return bench.take(*parts)
    return bench.drop(*parts)


def _told(error):
    """Return what an error tells, a tuple by its items."""
    if isinstance(error, tuple):
        return " ".join([str(item) for item in error])
    return str(error)
