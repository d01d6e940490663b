"""Benches: a program, the steps that replace it one after the other, and the way back."""

from foldlines.errors import Broken, InvalidGuard, OutOfRange, UnknownName
from foldlines.guards import aim_of, does_hold, is_guard
from foldlines.outlining import inlined, outlined
from foldlines.programs import Program
from foldlines.smallest import passed
from foldlines.sweeping import swept
from foldlines.values import is_int


class Bench:
    """A swept program, and the steps that made it."""

    def __init__(self, program):
        self._first = swept(program)
        # For each step in effect what it is, the lines that were given, and the program behind it.
        self._rows = []
        # Those that can be redone, the next one last.
        self._gone = []
        self._trials = 0

    @classmethod
    def of_text(cls, text):
        """A bench of the program with this text."""
        return cls(Program.read(text))

    @property
    def program(self):
        """The program behind all steps in effect."""
        return self._rows[-1][2] if self._rows else self._first

    @property
    def size(self):
        """The size of the program."""
        return self.program.size

    @property
    def moment(self):
        """How many steps are in effect."""
        return len(self._rows)

    @property
    def undone(self):
        """How many steps can be redone."""
        return len(self._gone)

    @property
    def depth(self):
        """How many trials are in progress."""
        return self._trials

    @property
    def steps(self):
        """The steps in effect, each with its word and what it was given first."""
        return tuple([step for step, _, _ in self._rows])

    def program_at(self, number):
        """The program behind so many steps."""
        _require_count(number, self.moment)
        return self._first if number == 0 else self._rows[number - 1][2]

    def sizes(self):
        """The size at the beginning, and behind each step in effect."""
        programs = [self._first, *[made for _, _, made in self._rows]]
        for program in programs:
            yield program.size

    def edit(self, name, lines):
        """Gives other lines to the function of this name."""
        if name not in self.program:
            raise UnknownName(name)
        self._do_step(("edit", name), lines, swept(self.program.with_function(name, lines)))

    def make(self, word):
        """Does the pass of this word; returns by how much the size fell."""
        return self._do_step(("make", word), (), passed(self.program, word))

    def put(self, name, lines):
        """Outlines lines at their best sites; returns by how much the size fell."""
        return self._do_step(("put", name), lines, outlined(self.program, name, lines))

    def take(self, name):
        """Inlines the function of this name; returns by how much the size fell."""
        return self._do_step(("take", name), (), inlined(self.program, name))

    def _do_step(self, step, lines, made):
        """Puts a step for which these lines were given into effect; returns by how much the size fell."""
        self._require_guards(made)
        fall = self.size - made.size
        self._rows.append((step, tuple(lines), made))
        self._gone = []
        self._count_step(step, fall)
        return fall

    def _require_guards(self, made):
        """Raises what is due for a program that may not stand behind a step; any may here."""

    def _count_step(self, step, fall):
        """Keeps how often a step was done, and by how much the size fell; not here."""

    def undo(self, count=1):
        """Undoes so many steps."""
        _require_count(count, self.moment)
        for _ in range(count):
            self._gone.append(self._rows.pop())

    def redo(self, count=1):
        """Does so many steps again that were undone."""
        _require_count(count, self.undone)
        for _ in range(count):
            self._rows.append(self._gone.pop())

    def attempt(self, action):
        """Returns what an action with the bench returns; if an error leaves it, the bench is as before."""
        rows = list(self._rows)
        gone = list(self._gone)
        told = None
        done = None
        self._trials += 1
        try:
            told = action(self)
            done = True
        finally:
            self._trials -= 1
            if done is None:
                self._rows = rows
                self._gone = gone
        return told

    def explore(self, action):
        """Returns what an action with the bench returns; the bench is as before in any case."""
        rows = list(self._rows)
        gone = list(self._gone)
        told = None
        self._trials += 1
        try:
            told = action(self)
        finally:
            self._trials -= 1
            self._rows = rows
            self._gone = gone
        return told


def _require_count(value, most):
    """Raises OutOfRange for any value that is not an integer from 0 to most."""
    if not is_int(value) or not 0 <= value <= most:
        raise OutOfRange(value)


class GuardedBench(Bench):
    """A bench whose guards hold behind each step."""

    def __init__(self, program, *guards):
        super().__init__(program)
        for at, guard in enumerate(guards):
            if not is_guard(guard):
                raise InvalidGuard(at)
        self._guards = [(guard, aim_of(guard, self._first)) for guard in guards]
        self._require_guards(self._first)

    def _require_guards(self, made):
        """Raises Broken for the first guard that does not hold of a program."""
        for at, (guard, aim) in enumerate(self._guards):
            if not does_hold(guard, aim, made):
                raise Broken(at)


class CountingBench(Bench):
    """A bench that counts how often each step was done, and by how much it made the size fall."""

    def __init__(self, program):
        super().__init__(program)
        self._counts = {}

    @property
    def counts(self):
        """A dict from the words of the steps that were done to how often they were, and how much they saved."""
        return {word: self._counts[word] for word in sorted(self._counts)}

    def _count_step(self, step, fall):
        """Counts a step."""
        word = step[1] if step[0] == "make" else step[0]
        times, units = self._counts.get(word, (0, 0))
        self._counts[word] = (times + 1, units + fall)


class GuardedCountingBench(GuardedBench, CountingBench):
    """A bench whose guards hold behind each step, and that counts the steps."""

    def __init__(self, program, *guards):
        super().__init__(program, *guards)
