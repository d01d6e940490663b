import unittest

from foldlines.errors import InvalidLine
from foldlines.programs import BareProgram, Program
from samples import ANY_VALUES

LOW, HIGH = -(2 ** 31), 2 ** 31 - 1

SIZES = {
    ("num", 0, 0): 1, ("num", 5, -8): 1, ("num", 0, 7): 1, ("num", 1, -9): 3, ("num", 0, 8): 3, ("num", 0, -1): 1,
    ("num", 0, LOW): 3, ("num", 0, HIGH): 3,
    ("copy", 0, 5): 1, ("copy", 3, 3): 1,
    ("add", 0, 1, 2): 1, ("sub", 3, 4, 5): 1, ("mul", 5, 5, 5): 1,
    ("addr", 0, "f"): 3, ("addr", 5, "main"): 3,
    ("same", 0, 1): 1, ("less", 5, 0): 1,
    ("in", 0): 1, ("out", 5): 1,
    ("push", 0): 1, ("push", "link"): 1, ("pop", 5): 1, ("pop", "link"): 1,
    ("read", 0, 0): 1, ("read", 5, 59): 1, ("write", 0, 5): 1, ("write", 59, 0): 1,
    ("mark", "l"): 0, ("mark", "eightlet"): 0, ("mark", "link"): 0,
    ("jump", "here"): 2, ("if", "here"): 2, ("unless", "here"): 2,
    ("call", "f"): 2, ("callr", 0): 1, ("tail", "f"): 2, ("back",): 1, ("stop",): 1,
}
STACK_LINES = [line for line in SIZES if line[0] in ("push", "pop", "read", "write")]

# Of each kind of a part: values that are none of it.
WRONG = {
    "reg": [-1, 6, 10 ** 59, True, False, None, "0", "link", "", (), (0,), [], [0], {}],
    "number": [LOW - 1, HIGH + 1, 10 ** 59, -(10 ** 59), True, False, None, "0", "", (), [0], {}],
    "entry": [-1, 60, True, False, None, "0", "link", (), [0], {}],
    "reg or link": [-1, 6, True, False, None, "0", "Link", "links", "lin", "", "end", (), [0], {}, ("link",)],
    "word": ["", "lettersss", "Here", "h ere", "h1", "1", "here\n", "-", "a_b", "`", "{", "A", None, True, 0, (),
             ("here",), ["here"], {}],
}
FORMS = {
    "num": ("reg", "number"), "copy": ("reg", "reg"), "add": ("reg", "reg", "reg"), "sub": ("reg", "reg", "reg"),
    "mul": ("reg", "reg", "reg"), "addr": ("reg", "word"), "same": ("reg", "reg"), "less": ("reg", "reg"),
    "in": ("reg",), "out": ("reg",), "push": ("reg or link",), "pop": ("reg or link",), "read": ("reg", "entry"),
    "write": ("entry", "reg"), "mark": ("word",), "jump": ("word",), "if": ("word",), "unless": ("word",),
    "call": ("word",), "callr": ("reg",), "tail": ("word",), "back": (), "stop": (),
}


def holding(line, kind=Program):
    """A program with any line, which no run reaches, so that only its form is asked."""
    return kind({"main": [("stop",), line, ("mark", "here"), ("stop",)], "f": [("back",)]})


class LinesTest(unittest.TestCase):
    def test_sizes(self):
        self.assertEqual({line[0] for line in SIZES}, set(FORMS))
        for line, size in SIZES.items():
            with self.subTest(line):
                self.assertEqual(Program.size_of_line(line), size)
                self.assertEqual(Program.size_of_line(line=line), size)
                self.assertEqual(BareProgram.size_of_line(line), size)
                self.assertIs(type(Program.size_of_line(line)), int)
                program = holding(line)
                self.assertEqual((program.size, program.size_of("main")), (size + 3, size + 2))
                self.assertEqual(program["main"][1], line)

    def test_parts_of_other_kinds(self):
        right = {line[0]: line for line in SIZES}
        for word, kinds in FORMS.items():
            for at, kind in enumerate(kinds, 1):
                for value in WRONG[kind]:
                    line = right[word][:at] + (value,) + right[word][at + 1:]
                    with self.subTest(line):
                        self.wrong(line)

    def test_parts_too_many_and_too_few(self):
        for line in SIZES:
            for value in (line + (0,), line + ("f",), line[:-1], line[:0]):
                if value not in SIZES:
                    with self.subTest(value):
                        self.wrong(value)

    def test_values_that_are_no_lines(self):
        for value in ANY_VALUES:
            if value != ("stop",):
                with self.subTest(value):
                    self.wrong(value)
        for value in (["stop"], "stop", ("Stop",), (None,), (0,), (("stop",),), (["stop"],), ({},), ("function", "f"),
                      ("nop",), ("",), ("mark", "l", "l"), ["num", 0, 1], ("end",)):
            with self.subTest(value):
                self.wrong(value)

    def test_bare_programs_have_no_lines_of_the_stack(self):
        for line in SIZES:
            with self.subTest(line):
                if line in STACK_LINES:
                    self.wrong(line, BareProgram)
                else:
                    self.assertEqual(holding(line, BareProgram)["main"][1], line)

    def test_labels_and_functions_that_are_not_there(self):
        for line in (("jump", "gone"), ("if", "gone"), ("unless", "gone"), ("call", "here"), ("tail", "gone"),
                     ("addr", 0, "gone"), ("jump", "f")):
            with self.subTest(line):
                self.wrong(line)
        self.wrong(("mark", "here"), index=2)

    def wrong(self, value, kind=Program, index=1):
        with self.assertRaises(InvalidLine) as caught:
            holding(value, kind)
        self.assertEqual((caught.exception.name, caught.exception.index), ("main", index))
