"""The machine: what a run has at a moment, and what each line does to it.

A value is an integer for a number and the name of a function for its address.
"""

from foldlines.lines import marks_of
from foldlines.programs import Program
from foldlines.values import wrapped


class Machine:
    """What a run of a program has at a moment."""

    def __init__(self, program, inputs):
        self.code = program.functions
        self.marks = {name: marks_of(lines) for name, lines in program.functions.items()}
        self.is_bare = program.IS_BARE
        self.inputs = tuple(inputs)
        self.taken = 0
        self.written = []
        self.registers = [0] * Program.REGISTERS
        self.flag = False
        # For a bare program this is the row that nobody sees.
        self.stack = []
        self.link = Program.END
        self.ended = None
        self.name = "main"
        self.at = 0
        pass_marks(self)


def pass_marks(machine):
    """Goes on to the next line that is no mark."""
    lines = machine.code[machine.name]
    while lines[machine.at][0] == "mark":
        machine.at += 1


def do_line(machine):
    """Does the line that is next."""
    line = machine.code[machine.name][machine.at]
    machine.at += 1
    action = ACTIONS[line[0]]
    action(machine, line)
    if machine.ended is None:
        pass_marks(machine)


def _num(machine, line):
    machine.registers[line[1]] = line[2]


def _copy(machine, line):
    machine.registers[line[1]] = machine.registers[line[2]]


def _add(machine, line):
    if _are_numbers(machine, line[2:]):
        left, right = machine.registers[line[2]], machine.registers[line[3]]
        machine.registers[line[1]] = wrapped(left + right)


def _sub(machine, line):
    if _are_numbers(machine, line[2:]):
        left, right = machine.registers[line[2]], machine.registers[line[3]]
        machine.registers[line[1]] = wrapped(left - right)


def _mul(machine, line):
    if _are_numbers(machine, line[2:]):
        left, right = machine.registers[line[2]], machine.registers[line[3]]
        machine.registers[line[1]] = wrapped(left * right)


def _same(machine, line):
    machine.flag = machine.registers[line[1]] == machine.registers[line[2]]


def _less(machine, line):
    if _are_numbers(machine, line[1:]):
        machine.flag = machine.registers[line[1]] < machine.registers[line[2]]


def _are_numbers(machine, registers):
    """Whether these registers have numbers; the run ends if they have not."""
    if any([isinstance(machine.registers[r], str) for r in registers]):
        machine.ended = "kind"
        return False
    return True


def _take_in(machine, line):
    has_more = machine.taken < len(machine.inputs)
    machine.registers[line[1]] = machine.inputs[machine.taken] if has_more else 0
    machine.taken += 1


def _put_out(machine, line):
    if _are_numbers(machine, line[1:]):
        machine.written.append(machine.registers[line[1]])


def _push(machine, line):
    machine.stack.append(machine.link if line[1] == "link" else machine.registers[line[1]])


def _pop(machine, line):
    top = machine.stack.pop()
    if line[1] == "link":
        machine.link = top
    else:
        machine.registers[line[1]] = top


def _read(machine, line):
    machine.registers[line[1]] = machine.stack[-1 - line[2]]


def _write(machine, line):
    machine.stack[-1 - line[1]] = machine.registers[line[2]]


def _jump(machine, line):
    machine.at = machine.marks[machine.name][line[1]]


def _if(machine, line):
    if machine.flag:
        _jump(machine, line)


def _unless(machine, line):
    if not machine.flag:
        _jump(machine, line)


def _call(machine, line):
    _keep_behind(machine)
    _enter(machine, line[1])


def _callr(machine, line):
    name = machine.registers[line[1]]
    if isinstance(name, str):
        _keep_behind(machine)
        _enter(machine, name)
    else:
        machine.ended = "kind"


def _tail(machine, line):
    _enter(machine, line[1])


def _keep_behind(machine):
    """Keeps where the function that is called goes back to."""
    behind = (machine.name, machine.at)
    if machine.is_bare:
        machine.stack.append(behind)
    else:
        machine.link = behind


def _enter(machine, name):
    machine.name = name
    machine.at = 0


def _back(machine, _):
    goal = machine.link
    if machine.is_bare and machine.stack:
        goal = machine.stack.pop()
    if goal == Program.END:
        machine.ended = "back"
    else:
        machine.name, machine.at = goal


def _stop(machine, _):
    machine.ended = "stop"


ACTIONS = {
    "num": _num, "copy": _copy, "add": _add, "sub": _sub, "mul": _mul, "addr": _num,
    "same": _same, "less": _less, "in": _take_in, "out": _put_out,
    "push": _push, "pop": _pop, "read": _read, "write": _write,
    "jump": _jump, "if": _if, "unless": _unless,
    "call": _call, "callr": _callr, "tail": _tail, "back": _back, "stop": _stop,
}
