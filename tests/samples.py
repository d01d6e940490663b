"""What several tests use: values of any kind, and small programs."""

import reference
from foldlines.lines import is_line
from foldlines.programs import BareProgram, Program
from foldlines.runs import run
from foldlines.sweeping import is_swept

DEEP = [[[[[[[["main"]]]]]]]]

ANY_VALUES = (
    None, True, False, 0, 1, -1, 7, 10 ** 59, "", "main", "Main", "main ", "m", "f\n", "lettersss", "link", "stop",
    (), (None,), ("main",), ("main", 0), ("stop",), (("stop",),), [], [None], ["main"], ["main", 0], [("stop",)],
    {}, {"main": None}, {"main": [("stop",)]}, {0: {}}, DEEP, tuple(DEEP), {"main": DEEP},
)


def same(left, right):
    """Whether two values are equal and of the same kinds throughout, so that True is not 1."""
    if type(left) is not type(right):
        return False
    if isinstance(left, (list, tuple)):
        return len(left) == len(right) and all(same(a, b) for a, b in zip(left, right))
    if isinstance(left, dict):
        return same(list(left.items()), list(right.items()))
    return left == right


TWICE = {
    "main": [("num", 0, 5), ("push", "link"), ("call", "double"), ("pop", "link"), ("out", 0), ("back",)],
    "double": [("add", 0, 0, 0), ("back",)],
}


def twice():
    return Program({name: list(lines) for name, lines in TWICE.items()})


def rings():
    return Program({
        "main": [("call", "a"), ("call", "b"), ("stop",)],
        "a": [("push", "link"), ("out", 0), ("call", "b"), ("pop", "link"), ("back",)],
        "b": [("push", "link"), ("out", 0), ("call", "a"), ("pop", "link"), ("back",)],
    })


def seen():
    return Program({
        "main": [("addr", 0, "a"), ("addr", 1, "b"), ("same", 0, 1), ("callr", 1), ("stop",)],
        "a": [("out", 2), ("out", 3), ("back",)],
        "b": [("out", 2), ("out", 3), ("back",)],
    })


def bare():
    return BareProgram.read(
        "function f\nin 0\nless 0 1\nif out\ncall f\nmark out\nback\nfunction main\ncall f\nout 0\nback")


def stops(many):
    """So many lines that stop."""
    return [("stop",)] * many


def names_of(many):
    """So many names, main among them."""
    return ["main"] + ["f" + chr(ord("a") + at) for at in range(many - 1)]


def facts():
    return Program.read("function f\nnum 2 7\nback\nfunction main\nnum 0 100\ncall f\nnum 1 100\nout 1\nstop")


def not_swept():
    """Programs in each of which something is left that swept takes away."""
    stop, back = ("stop",), [("back",)]
    return [Program(functions) for functions in (
        {"main": [stop], "f": back}, {"main": [stop, stop]}, {"main": [("mark", "a"), stop]},
        {"main": [stop, ("call", "f")], "f": back}, {"main": [("in", 0), ("mark", "a"), stop, ("if", "a")]})]


def run_alike(one, other, inputs, most):
    """Whether two runs have the same outputs and the same end, as far as so many steps tell, or a few times more."""
    left, right = run(one, inputs, most), run(other, inputs, most)
    if left[1] is None or right[1] is None:
        left, right = run(one, inputs, 20 * most), run(other, inputs, 20 * most)
    many = min(len(left[0]), len(right[0]))
    if left[1] is None and right[1] is None:
        return left[0][:many] == right[0][:many]
    return left[:2] == right[:2]


def is_right(program):
    """Whether a program that a pass made is right line by line, tidy and swept, however many lines it has."""
    if type(program) is not Program or not is_swept(program):
        return False
    rows = program.functions.values()
    return all(are_right_lines(lines, program.names) and reference.is_tidy(lines, False) for lines in rows)


def are_right_lines(lines, names):
    """Whether lines have their forms, and name only labels and functions that are there; each label has one mark."""
    marks = [line[1] for line in lines if line[0] == "mark"]
    labels = [line[1] for line in lines if line[0] in ("jump", "if", "unless")]
    named = [line[-1] for line in lines if line[0] in ("addr", "call", "tail")]
    if type(lines) is not tuple or not all(map(is_line, lines)) or len(set(marks)) < len(marks):
        return False
    return set(labels) <= set(marks) and set(named) <= set(names)


def again():
    text = [("in", 0), ("add", 0, 0, 0), ("mul", 1, 0, 0), ("out", 1)]
    return Program({"main": [*text, *text, *text, ("stop",)]})


def ends():
    return Program.of(("in", 0), ("less", 0, 1), ("if", "a"), ("out", 0), ("out", 1), ("out", 2), ("stop",),
                      ("mark", "a"), ("in", 0), ("out", 1), ("out", 2), ("stop",))


def loop():
    return Program.of(("mark", "a"), ("in", 0), ("same", 0, 1), ("unless", "a"), ("stop",))
