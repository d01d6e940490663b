"""The lines of a function: their forms, their sizes, and the labels and functions that they name."""

from foldlines.limits import GREATEST_SHORT, LEAST_SHORT, MAX_ENTRY, REGISTERS
from foldlines.values import is_int, is_number, is_word

# For each first word of a line the kinds of the parts behind it.
FORMS = {
    "num": ("reg", "number"),
    "copy": ("reg", "reg"),
    "add": ("reg", "reg", "reg"),
    "sub": ("reg", "reg", "reg"),
    "mul": ("reg", "reg", "reg"),
    "addr": ("reg", "word"),
    "same": ("reg", "reg"),
    "less": ("reg", "reg"),
    "in": ("reg",),
    "out": ("reg",),
    "push": ("reg or link",),
    "pop": ("reg or link",),
    "read": ("reg", "entry"),
    "write": ("entry", "reg"),
    "mark": ("word",),
    "jump": ("word",),
    "if": ("word",),
    "unless": ("word",),
    "call": ("word",),
    "callr": ("reg",),
    "tail": ("word",),
    "back": (),
    "stop": (),
}

# The sizes that are not 1; that of num depends on its number.
SIZES = {"addr": 3, "mark": 0, "jump": 2, "if": 2, "unless": 2, "call": 2, "tail": 2}

STACK_WORDS = ("push", "pop", "read", "write")
JUMP_WORDS = ("jump", "if", "unless")
CALL_WORDS = ("call", "callr")
END_WORDS = ("jump", "back", "tail", "stop")


def is_line(value):
    """Whether a value has the form of a line, whatever labels and functions it names."""
    if not isinstance(value, tuple) or len(value) == 0:
        return False
    if not isinstance(value[0], str) or value[0] not in FORMS:
        return False
    kinds = FORMS[value[0]]
    if len(value) != len(kinds) + 1:
        return False
    return all([_fits(kind, part) for kind, part in zip(kinds, value[1:])])


def _fits(kind, part):
    """Whether a part of a line is of this kind."""
    if kind == "word":
        return is_word(part)
    if kind == "number":
        return is_number(part)
    if kind == "entry":
        return is_int(part) and 0 <= part <= MAX_ENTRY
    if kind == "reg or link" and part == "link":
        return True
    return is_int(part) and 0 <= part < REGISTERS


def line_size(line):
    """The size of a line."""
    if line[0] == "num":
        return 1 if LEAST_SHORT <= line[2] <= GREATEST_SHORT else 3
    return SIZES.get(line[0], 1)


def lines_size(lines):
    """The size of all these lines together."""
    return sum([line_size(line) for line in lines])


def named_function(line):
    """The name of the function that a line names, None if it names none."""
    if line[0] == "addr":
        return line[2]
    if line[0] in ("call", "tail"):
        return line[1]
    return None


def named_label(line):
    """The label at whose mark a line may go on, None if there is none."""
    return line[1] if line[0] in JUMP_WORDS else None


def registers_in(line):
    """The registers that stand in a line, in the order in which they stand there."""
    kinds = FORMS[line[0]]
    return tuple([part for kind, part in zip(kinds, line[1:]) if kind in ("reg", "reg or link") and part != "link"])


def marks_of(lines):
    """A dict from the labels of these lines to the indexes of their marks."""
    return {line[1]: at for at, line in enumerate(lines) if line[0] == "mark"}
