import unittest

from foldlines.errors import InvalidFunctions, InvalidLine, InvalidText, TooMany, Untidy
from foldlines.programs import BareProgram, Program
from samples import ANY_VALUES, bare, names_of, rings, same, seen, stops, twice

ALL_LINES = (
    ("num", 0, -5), ("num", 5, 0), ("num", 1, 10), ("num", 1, 2147483647), ("num", 1, -2147483648), ("copy", 0, 1),
    ("add", 0, 1, 2), ("sub", 3, 4, 5), ("mul", 1, 1, 1), ("addr", 0, "function"), ("same", 0, 1), ("less", 1, 0),
    ("in", 0), ("out", 0), ("push", 0), ("push", "link"), ("pop", "link"), ("pop", 0), ("push", 1), ("read", 0, 0),
    ("write", 0, 0), ("pop", 2), ("mark", "mark"), ("jump", "link"), ("mark", "link"), ("if", "mark"),
    ("unless", "link"), ("push", "link"), ("call", "function"), ("callr", 0), ("pop", "link"), ("tail", "function"),
    ("back",), ("stop",), ("read", 5, 59), ("write", 59, 5),
)
ALL_ROWS = (
    "num 0 -5", "num 5 0", "num 1 10", "num 1 2147483647", "num 1 -2147483648", "copy 0 1",
    "add 0 1 2", "sub 3 4 5", "mul 1 1 1", "addr 0 function", "same 0 1", "less 1 0",
    "in 0", "out 0", "push 0", "push link", "pop link", "pop 0", "push 1", "read 0 0",
    "write 0 0", "pop 2", "mark mark", "jump link", "mark link", "if mark",
    "unless link", "push link", "call function", "callr 0", "pop link", "tail function",
    "back", "stop", "read 5 59", "write 59 5",
)


class TextTest(unittest.TestCase):
    def test_every_line_has_its_text(self):
        program = Program({"main": ALL_LINES, "function": [("back",)]})
        self.assertEqual(program.text, "\n".join(("function function", "back", "function main", *ALL_ROWS)))
        self.assertEqual(Program.read(program.text), program)
        self.assertTrue(same(Program.read(text=program.text)["main"], ALL_LINES))

    def test_texts_are_read_back(self):
        for program in (twice(), rings(), seen(), Program.of(("stop",))):
            self.assertEqual(Program.read(program.text), program)
            self.assertEqual(Program.read(program.text).text, program.text)
        self.assertEqual(BareProgram.read(bare().text), bare())

    def test_the_class_that_reads(self):
        text = "function main\nstop"
        self.assertIs(type(Program.read(text)), Program)
        self.assertIs(type(BareProgram.read(text)), BareProgram)
        self.assertIs(type(Program.of(("stop",)).read(text)), Program)

    def test_values_that_are_no_texts(self):
        for value in ANY_VALUES:
            with self.subTest(value):
                self.wrong(value, 0)
        self.wrong(["function main", "stop"], 0)

    def test_rows_that_are_none(self):
        for row in ("", " ", "nop", "Stop", "STOP", "stop ", " stop", "stop\t", "back 0", "stop stop", "num",
                    "num 0", "num 0 1 2", "num  0 1", "num 0  1", "num 0 1 ", "num 00 1", "num 0 01", "num 0 +1",
                    "num +0 1", "num -0 1", "num 0 -0", "num 0 -01", "num 0 --1", "num 0 1-", "num 0 1.0",
                    "num 0 0x1", "num 0 1x", "num 0 1_0", "num 0 a", "num 0 link", "num 6 1", "num -1 1",
                    "num 0 2147483648", "num 0 -2147483649", "num 0 -", "num 0 " + "1" * 9999, "num 0 True",
                    "num 0 None", "num a 0", "num 0,1", "copy 0", "copy 0 6", "add 0 0", "addr 0 F", "addr f 0",
                    "addr 0 0", "addr 0", "push", "push Link", "push 6", "pop end", "read 0 60", "read 0 -1",
                    "read 6 0", "write 60 0", "write 0 6", "mark", "mark 0", "mark A", "mark lettersss",
                    "mark a b", "jump", "jump 0", "if", "unless 1", "call 0", "call F", "callr f", "callr 6",
                    "tail", "tail 0", "function", "function ", "function A", "function a1", "function 0",
                    "function n o", "function lettersss", " function n", "functions n", "Function n", "main",
                    "stop;stop", "('stop',)", "0", "-1"):
            with self.subTest(row):
                self.wrong(f"function main\nstop\n{row}", 2)
                self.wrong(f"function main\nstop\n{row}\nstop", 2)
                self.wrong(f"{row}\nfunction main\nstop", 0)

    def test_lines_ahead_of_a_function(self):
        self.wrong("stop", 0)
        self.wrong("stop\nfunction main\nstop", 0)
        self.wrong("", 0)
        self.wrong("\nfunction main\nstop", 0)
        self.wrong("function main\nstop\n", 2)
        self.wrong("function main\n\nstop", 1)

    def test_names_ascend(self):
        self.wrong("function main\nstop\nfunction a\nstop", 2)
        self.wrong("function main\nstop\nfunction main\nstop", 2)
        self.wrong("function a\nstop\nfunction b\nstop\nfunction main\nstop\nfunction aa\nstop", 6)
        self.assertEqual(len(Program.read("function aa\nstop\nfunction b\nstop\nfunction main\nstop")), 3)
        self.assertEqual(len(Program.read("function m\nstop\nfunction main\nstop\nfunction mainn\nstop")), 3)

    def test_the_first_wrong_row(self):
        self.wrong("function main\nnop\nnop", 1)
        self.wrong("function main\nstop\nstop\nnop\nfunction a", 3)

    def test_the_form_is_asked_whatever_the_class(self):
        text = "function main\nin 0\npush 0\npop 0\nstop"
        self.assertEqual(Program.read(text).size, 4)
        self.invalid_line(BareProgram, text, "main", 2 - 1)
        self.invalid_line(BareProgram, "function main\nstop\nread 0 5", "main", 1)
        self.wrong("function main\npush 0\nnop", 2, BareProgram)
        self.wrong("function main\nread 0 60", 1, BareProgram)

    def test_texts_ahead_of_the_errors_of_the_constructor(self):
        self.wrong("function f\nfunction main\nnop", 2)
        self.wrong("function main\ncall gone\nnop", 2)
        self.wrong("function f\nout 0\nnop", 2)
        self.wrong("function main\n" + "stop\n" * 61, 62)

    def test_errors_of_the_constructor(self):
        self.assertRaises(InvalidFunctions, Program.read, "function f\nstop")
        self.assertRaises(InvalidFunctions, Program.read, "function main")
        self.assertRaises(InvalidFunctions, Program.read, "function f\nfunction main\nstop")
        many = "\n".join(f"function {name}\nstop" for name in sorted(names_of(25)))
        self.assertRaises(InvalidFunctions, Program.read, many)
        self.invalid_line(Program, "function main\nstop\ncall gone", "main", 1)
        self.invalid_line(Program, "function main\nstop\njump gone", "main", 1)
        self.invalid_line(Program, "function main\nmark a\nmark a\nstop", "main", 1)
        with self.assertRaises(TooMany) as caught:
            Program.read("function main\n" + "\n".join(["stop"] * 61))
        self.assertEqual(caught.exception.limit, 60)
        with self.assertRaises(Untidy) as caught:
            Program.read("function f\nout 0\nfunction main\nout 0")
        self.assertEqual(caught.exception.name, "f")

    def test_the_longest_texts(self):
        program = Program({name: stops(10) for name in names_of(24)})
        self.assertEqual(Program.read(program.text), program)

    def wrong(self, value, index, kind=Program):
        with self.assertRaises(InvalidText) as caught:
            kind.read(value)
        self.assertTrue(same(caught.exception.index, index))

    def invalid_line(self, kind, text, name, index):
        with self.assertRaises(InvalidLine) as caught:
            kind.read(text)
        self.assertEqual((caught.exception.name, caught.exception.index), (name, index))
