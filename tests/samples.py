"""What several tests use: values of any kind, and small programs."""

from foldlines.programs import BareProgram, Program

DEEP = [[[[[[[["main"]]]]]]]]

ANY_VALUES = (
    None, True, False, 0, 1, -1, 7, 10 ** 59, "", "main", "Main", "main ", "m", "f\n", "lettersss", "link", "stop",
    (), (None,), ("main",), ("main", 0), ("stop",), (("stop",),), [], [None], ["main"], ["main", 0], [("stop",)],
    {}, {"main": None}, {"main": [("stop",)]}, {0: {}}, DEEP, tuple(DEEP), {"main": DEEP},
)


def same(left, right):
    """Whether two values are equal and of the same kinds throughout, so that True is not 1."""
    if type(left) is not type(right):
        return False
    if isinstance(left, (list, tuple)):
        return len(left) == len(right) and all(same(a, b) for a, b in zip(left, right))
    if isinstance(left, dict):
        return same(list(left.items()), list(right.items()))
    return left == right


TWICE = {
    "main": [("num", 0, 5), ("push", "link"), ("call", "double"), ("pop", "link"), ("out", 0), ("back",)],
    "double": [("add", 0, 0, 0), ("back",)],
}


def twice():
    return Program({name: list(lines) for name, lines in TWICE.items()})


def rings():
    return Program({
        "main": [("call", "a"), ("call", "b"), ("stop",)],
        "a": [("push", "link"), ("out", 0), ("call", "b"), ("pop", "link"), ("back",)],
        "b": [("push", "link"), ("out", 0), ("call", "a"), ("pop", "link"), ("back",)],
    })


def seen():
    return Program({
        "main": [("addr", 0, "a"), ("addr", 1, "b"), ("same", 0, 1), ("callr", 1), ("stop",)],
        "a": [("out", 2), ("out", 3), ("back",)],
        "b": [("out", 2), ("out", 3), ("back",)],
    })


def bare():
    return BareProgram.read(
        "function f\nin 0\nless 0 1\nif out\ncall f\nmark out\nback\nfunction main\ncall f\nout 0\nback")


def stops(many):
    """So many lines that stop."""
    return [("stop",)] * many


def names_of(many):
    """So many names, main among them."""
    return ["main"] + ["f" + chr(ord("a") + at) for at in range(many - 1)]
