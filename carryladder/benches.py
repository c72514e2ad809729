"""Benches: machines and programs under names."""

from carryladder.bounds import MAX_EDITS, MAX_WORDS
from carryladder.carrying import machine_of
from carryladder.errors import BadMachine, BadProgram, NothingToUndo, TooManyEdits, Unfit
from carryladder.kinds import is_integer, is_name
from carryladder.lookalikes import tells
from carryladder.machines import machine_error
from carryladder.making import made
from carryladder.programs import is_book, program_error


class Bench:
    """Where machines and programs for as many words lie under names; what was done to it can be taken back."""

    def __init__(self, many):
        if not is_integer(many, MAX_WORDS):
            raise Unfit()
        self._many = many
        self._edits = ()
        # By names, pairs of "machine" or "program" and the machine or program itself.
        self._things = {}
        # For each edit the name that it was about, and the pair that it named before, None if none.
        self._elders = []

    @property
    def many(self):
        """How many words the machines and programs here read."""
        return self._many

    @property
    def edits(self):
        """The tuple of the edits that stand."""
        return self._edits

    @property
    def version(self):
        """How many edits stand."""
        return len(self._edits)

    def __eq__(self, other):
        if not isinstance(other, Bench):
            return False
        return self._many == other._many and self._things == other._things

    def __ne__(self, other):
        return not self == other

    def names(self):
        """Return the ascending tuple of the names that name something."""
        return tuple(sorted(self._things))

    def named(self, name):
        """Return the pair of "machine" or "program" and what name names; Unfit() if it names nothing."""
        if not is_name(name) or name not in self._things:
            raise Unfit()
        return self._things[name]

    def machine_named(self, name):
        """Return the machine that name names; Unfit() if it names none."""
        return self._named_as("machine", name)

    def program_named(self, name):
        """Return the program that name names; Unfit() if it names none."""
        return self._named_as("program", name)

    def _named_as(self, kind, name):
        own, thing = self.named(name)
        if own != kind:
            raise Unfit()
        return thing

    def tells(self, one, other):
        """Tell whether the program named one tells the machine named other; Unfit() if there are no such ones."""
        program = self.program_named(one)
        return tells(program, self.machine_named(other))

    def put_machine(self, name, machine):
        """Put a machine under a name; Unfit(), or BadMachine(error), if that cannot be."""
        self._check_name(name)
        error = machine_error(machine)
        if error is not None:
            raise BadMachine(error)
        if machine[0] != self._many:
            raise Unfit()
        return self._done(("put_machine", name, machine), ("machine", machine))

    def put_program(self, name, program):
        """Put a program under a name; Unfit(), or BadProgram(error), if that cannot be."""
        self._check_name(name)
        error = program_error(program)
        if error is not None:
            raise BadProgram(error)
        if program[0] != self._many:
            raise Unfit()
        return self._done(("put_program", name, program), ("program", program))

    def make(self, name, of, book):
        """Put a program of book for the machine named of under a name; errors as made, Unfit() ahead of them."""
        self._check_name(name)
        machine = self.machine_named(of)
        if not is_book(book):
            raise Unfit()
        return self._done(("make", name, of, book), ("program", made(machine, book)))

    def take(self, name, of):
        """Put the machine of the program named of under a name; errors as machine_of, Unfit() ahead of them."""
        self._check_name(name)
        program = self.program_named(of)
        return self._done(("take", name, of), ("machine", machine_of(program)))

    def drop(self, name):
        """Let a name name nothing any more; Unfit() if it names nothing."""
        self.named(name)
        return self._done(("drop", name), None)

    def undo(self):
        """Take back the last edit that stands; NothingToUndo() if there is none."""
        if not self._edits:
            raise NothingToUndo()
        self._edits = self._edits[:-1]
        name, elder = self._elders.pop()
        self._put(name, elder)
        return self.version

    def twin(self):
        """Return another bench with the same edits and the same things."""
        twin = Bench(self._many)
        twin._edits = self._edits
        twin._things = dict(self._things)
        twin._elders = list(self._elders)
        return twin

    def _check_name(self, name):
        if not is_name(name):
            raise Unfit()

    def _done(self, edit, thing):
        """Do an edit, after which its name names thing, and return the version; TooManyEdits() if too many stand."""
        if self.version == MAX_EDITS:
            raise TooManyEdits()
        name = edit[1]
        self._edits = self._edits + (edit,)
        self._elders.append((name, self._things.get(name)))
        self._put(name, thing)
        return self.version

    def _put(self, name, thing):
        if thing is None:
            del self._things[name]
        else:
            self._things[name] = thing
