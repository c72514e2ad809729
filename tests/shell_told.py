"""The answers of a shell by the document's words, from what the package's own calls return."""

import re

from carryladder.carrying import machine_of
from carryladder.counting import lots, noughts, ones_at, ones_in_all
from carryladder.errors import BadMachine, BadProgram, BadText, NothingToUndo, TooMany, TooManyEdits, Unfit
from carryladder.hanging import reach
from carryladder.leastmachines import parting
from carryladder.machines import written
from carryladder.machinetexts import machine_text, read_machine
from carryladder.papers import paper
from carryladder.programtexts import program_text, read_program
from carryladder.rings import rings
from carryladder.rungs import books_of
from carryladder.running import result
from carryladder.turnings import steady, turning
from tests.bench_told import Told
from tests.benchlog_lines import told_line

NEW_LINE = "\n"
NAME = "([a-z]{1,20})"
NUMBER = "(0|[1-9][0-9]{0,77})"
BOOK = "(plain|prefix|twice|minus|sums|masks|turns)"
LINES = {
    "begin": NUMBER, "machine": NAME + " ((?s:.*))", "program": NAME + " ((?s:.*))",
    "make": f"{NAME} {NAME} {BOOK}", "take": f"{NAME} {NAME}", "drop": NAME, "undo": None, "names": None, "log": None,
    "what": NAME, "show": NAME, "run": f"{NAME} {NUMBER}((?: (?:0|[1-9][0-9]{{0,77}}))*)", "books": NAME,
    "paper": f"{NAME} {BOOK}", "alike": f"{NAME} {NAME}", "rings": NAME + " ([0-3]{1,400})", "steady": NAME,
    "count": f"{NAME} {NUMBER}", "ones": f"{NAME} {NUMBER}", "lots": f"{NAME} {NUMBER}", "reach": f"{NAME} {NUMBER}",
}


def told_parts(line):
    """The word of a line and its parts as strs, or None if it is no such line."""
    if type(line) is not str:
        return None
    for word, shape in LINES.items():
        found = re.fullmatch(word if shape is None else word + " " + shape, line)
        if found:
            return word, found.groups()
    return None


def one_line(text):
    return "; ".join(text.split("\n"))


class ToldShell:
    """A shell over the tests' own book of names."""

    def __init__(self):
        self.bench = None

    def say(self, line):
        found = told_parts(line)
        if found is None:
            return "no such line"
        word, parts = found
        if self.bench is None and word != "begin":
            return "no bench"
        try:
            return self.answer(word, *parts)
        except Unfit:
            return "unfit"
        except (BadMachine, BadProgram) as error:
            told = error.error if type(error.error) is tuple else (error.error,)
            kind = "machine" if type(error) is BadMachine else "program"
            return f"bad {kind}: " + " ".join([str(item) for item in told])
        except BadText as error:
            return "bad text: " + str(error.line)
        except TooMany as error:
            return "too many: " + str(error.limit)
        except TooManyEdits:
            return "too many edits"
        except NothingToUndo:
            return "nothing to undo"

    def thing(self, name):
        if name not in self.bench.states[-1]:
            raise Unfit()
        return self.bench.states[-1][name]

    def machine(self, name):
        kind, thing = self.thing(name)
        return thing if kind == "machine" else machine_of(thing)

    def limited(self, number, least, most):
        if not least <= int(number) <= most:
            raise Unfit()
        return int(number)

    def answer(self, word, *parts):
        if word == "begin":
            self.bench = Told(self.limited(parts[0], 0, 2))
            return "begun"
        if word == "undo":
            return f"version {self.bench.undo()}"
        if word in ("machine", "program"):
            read = read_machine if word == "machine" else read_program
            return f"version {self.bench.do(('put_' + word, parts[0], read(parts[1].replace('; ', NEW_LINE))))}"
        if word in ("make", "take", "drop"):
            return f"version {self.bench.do((word, *parts))}"
        if word == "names":
            return " ".join(sorted(self.bench.states[-1])) or "none"
        if word == "log":
            return "\n".join([told_line(edit) for edit in self.bench.edits]) or "none"
        kind, thing = self.thing(parts[0])
        if word == "what":
            return f"{kind} of {len(thing[1])} " + {"machine": "states", "program": "rows"}[kind]
        if word == "show":
            return one_line(machine_text(thing) if kind == "machine" else program_text(thing))
        if word == "run":
            return self.run(kind, thing, parts[1], [int(number) for number in parts[2].split()])
        return self.asked(word, *parts)

    def run(self, kind, thing, width, words):
        width = self.limited(width, 1, 256)
        if len(words) != self.bench.many or any(word >= 2 ** width for word in words):
            raise Unfit()
        return str((written if kind == "machine" else result)(thing, width, tuple(words)))

    def asked(self, word, name, *parts):
        if word == "books":
            return " ".join(books_of(self.machine(name))) or "none"
        if word == "steady":
            return str(steady(self.machine(name))[0])
        if word == "paper":
            found = paper(self.machine(name), parts[0])
            told = ["".join([str(x) for x in item]) if type(item) is tuple else str(item) for item in found or ()]
            return " ".join(told) or "stands"
        if word == "alike":
            self.thing(parts[0])
            apart = parting(self.machine(name), self.machine(parts[0]))
            return "alike" if apart is None else " ".join([f"apart at {apart[0]}:"] + [str(own) for own in apart[1]])
        if word == "rings":
            string = tuple([self.limited(figure, 0, 2 ** self.bench.many - 1) for figure in parts[0]])
            found = rings(turning(self.machine(name), string))
            return "; ".join([" ".join([str(state) for state in ring]) for ring in found])
        if word == "reach":
            j = self.limited(parts[0], 0, self.bench.many - 1)
            far = reach(self.machine(name), j)
            return {-1: "never", None: "endless"}.get(far, str(far))
        number = self.limited(parts[0], 0, 255) if word == "ones" else self.limited(parts[0], 1, 256)
        machine = self.machine(name)
        if word == "ones":
            return str(ones_at(machine, number))
        if word == "lots":
            return " ".join([str(own) for own in lots(machine, number)])
        return f"{noughts(machine, number)} {ones_in_all(machine, number)}"


def is_refused(answer):
    return answer.split(":")[0] in ("unfit", "bad machine", "bad program", "bad text", "too many", "too many edits",
                                    "nothing to undo", "no bench", "no such line")
