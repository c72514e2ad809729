"""An own book of names beside a bench, and drawn edits."""

import copy

from carryladder.carrying import machine_of
from carryladder.errors import BadMachine, BadProgram, LadderError, NothingToUndo, TooManyEdits, Unfit
from carryladder.machines import machine_error
from carryladder.making import made
from carryladder.programs import program_error
from tests.helpers import ODD, random_machine, random_program
from tests.making_told import PLAIN, WORDS
from tests.rungs_told import BOOKS

NAMES = ("a", "b", "low", "lows", "abcdefghijklmnopqrst")
LETTERS = "abcdefghijklmnopqrstuvwxyz"
NO_NAMES = ODD + ("", "A", "Low", "a1", "a b", "a\n", " a", "a_", "abcdefghijklmnopqrstu", "\u00e4", "a-b")


def is_told_name(value):
    return type(value) is str and 1 <= len(value) <= 20 and all(sign in LETTERS for sign in value)


class Told:
    """What [K] says of a bench, kept as all states that it was in, the last one being that which stands."""

    def __init__(self, many):
        self.many = many
        self.edits = []
        self.states = [{}]

    def named(self, kind, name):
        if not is_told_name(name) or name not in self.states[-1] or self.states[-1][name][0] != kind:
            raise Unfit()
        return self.states[-1][name][1]

    def coming(self, edit):
        """The pair that an edit puts under its name, None for drop; or what it raises."""
        word, *told = edit
        if word == "drop":
            name = told[0]
            if not is_told_name(name) or name not in self.states[-1]:
                raise Unfit()
            return None
        if not is_told_name(told[0]):
            raise Unfit()
        if word in ("put_machine", "put_program"):
            error = machine_error(told[1]) if word == "put_machine" else program_error(told[1])
            if error is not None:
                raise (BadMachine if word == "put_machine" else BadProgram)(error)
            if told[1][0] != self.many:
                raise Unfit()
            return word[4:], told[1]
        if word == "take":
            return "machine", machine_of(self.named("program", told[1]))
        machine = self.named("machine", told[1])
        if type(told[2]) is not str or told[2] not in BOOKS:
            raise Unfit()
        return "program", made(machine, told[2])

    def do(self, edit):
        pair = self.coming(edit)
        if len(self.edits) == 200:
            raise TooManyEdits()
        things = dict(self.states[-1])
        things.pop(edit[1], None)
        if pair is not None:
            things[edit[1]] = pair
        self.edits.append(edit)
        self.states.append(things)
        return len(self.edits)

    def undo(self):
        if not self.edits:
            raise NothingToUndo()
        self.edits.pop()
        self.states.pop()
        return len(self.edits)

    def twin(self):
        twin = Told(self.many)
        twin.edits, twin.states = list(self.edits), copy.deepcopy(self.states)
        return twin


def came_of(call, *args):
    """What a call comes to, or the class and the fields of what it raises."""
    try:
        return repr(call(*args))
    except LadderError as error:
        return "raises " + type(error).__name__ + repr(vars(error))


def edited(bench, edit):
    word, *told = edit
    return getattr(bench, word)(*told)


def small_program(rng, many):
    words = PLAIN + WORDS[rng.choice(BOOKS)] * 2
    return random_program(rng, many, rng.randint(1, 4), words)


def drawn_edit(rng, many):
    """An edit that may or may not be one that can be done."""
    name = rng.choice(NAMES) if rng.random() < 0.95 else rng.choice(NO_NAMES)
    of = rng.choice(NAMES) if rng.random() < 0.95 else rng.choice(NO_NAMES)
    way = rng.randrange(9)
    own = many if rng.random() < 0.9 else rng.randrange(3)
    if way < 2:
        return ("put_machine", name, random_machine(rng, own, rng.randint(1, 3)))
    if way < 4:
        return ("put_program", name, small_program(rng, own))
    if way == 4:
        return (rng.choice(("put_machine", "put_program")), name, rng.choice(ODD))
    if way < 7:
        return ("make", name, of, rng.choice(BOOKS) if rng.random() < 0.95 else rng.choice(ODD + ("more", "Sums")))
    if way == 7:
        return ("take", name, of)
    return ("drop", name)
