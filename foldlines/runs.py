"""Runs of programs, step by step."""

from foldlines.errors import InvalidInputs
from foldlines.machines import Machine, do_line
from foldlines.values import are_numbers


class Run:
    """One run of a program with these inputs."""

    def __init__(self, program, inputs=()):
        if not are_numbers(inputs):
            raise InvalidInputs(inputs)
        self._machine = Machine(program, inputs)
        self._steps = 0
        self._visits = {}

    @property
    def outputs(self):
        """What was put out."""
        return tuple(self._machine.written)

    @property
    def end(self):
        """How the run ended, None if it did not."""
        return self._machine.ended

    @property
    def steps(self):
        """How many steps were done."""
        return self._steps

    @property
    def place(self):
        """The place of the line that is done next, None behind the end."""
        if self._machine.ended is not None:
            return None
        return (self._machine.name, self._machine.at)

    @property
    def depth(self):
        """How many entries the stack has, or the hidden row of a bare program."""
        return len(self._machine.stack)

    @property
    def visits(self):
        """A dict from the places of the lines that were done to how often they were."""
        return {place: self._visits[place] for place in sorted(self._visits)}

    def step(self):
        """Does one step; nothing behind the end."""
        place = self.place
        if place is not None:
            self._visits[place] = self._visits.get(place, 0) + 1
            self._steps += 1
            do_line(self._machine)

    def go(self, many):
        """Does at most so many steps."""
        for _ in range(many):
            if self._machine.ended is not None:
                return
            self.step()

    def walk(self):
        """The place of each step up to the end; the step is done when the next one is asked for."""
        while self._machine.ended is None:
            yield self.place
            self.step()


def run(program, inputs, most):
    """The outputs, the end and the number of steps after at most so many steps."""
    done = Run(program, inputs)
    done.go(most)
    return (done.outputs, done.end, done.steps)
