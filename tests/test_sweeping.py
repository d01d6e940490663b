import unittest

from foldlines.errors import NotSwept
from foldlines.programs import BareProgram, Program
from foldlines.runs import run
from foldlines.sweeping import is_swept, swept
from samples import bare, names_of, rings, seen, stops, twice

STOP = ("stop",)


class SweepingTest(unittest.TestCase):
    def test_programs_that_are_swept(self):
        for program in (twice(), rings(), seen(), bare(), Program.of(STOP), Program.of(("mark", "a"), ("jump", "a"))):
            self.assertIs(is_swept(program), True)
            self.assertEqual(swept(program), program)
            self.assertIs(type(swept(program=program)), type(program))

    def test_functions_that_are_not_live(self):
        self.sweeps({"main": [STOP], "f": [("back",)]}, {"main": [STOP]})
        self.sweeps({"main": [STOP], "f": [("tail", "g")], "g": [("tail", "f")]}, {"main": [STOP]})
        self.sweeps({"main": [("tail", "b")], "a": [("tail", "b")], "b": [STOP]},
                    {"main": [("tail", "b")], "b": [STOP]})

    def test_functions_named_by_lines_that_are_not_reached(self):
        for line in (("call", "f"), ("tail", "f"), ("addr", 0, "f")):
            self.sweeps({"main": [STOP, line], "f": [("back",)]}, {"main": [STOP]})
        self.sweeps({"main": [STOP, ("call", "f")], "f": [("tail", "g")], "g": [STOP]}, {"main": [STOP]})

    def test_lines_that_are_not_reached(self):
        self.sweeps({"main": [STOP, STOP]}, {"main": [STOP]})
        self.sweeps({"main": [("jump", "a"), ("out", 0), ("mark", "a"), ("in", 0), STOP, ("pop", 0)]},
                    {"main": [("jump", "a"), ("mark", "a"), ("in", 0), STOP]})
        self.sweeps({"main": [("tail", "f"), ("out", 1)], "f": [("back",), ("out", 0)]},
                    {"main": [("tail", "f")], "f": [("back",)]})
        self.sweeps({"main": [STOP, ("mark", "a"), ("jump", "a")]}, {"main": [STOP]})

    def test_marks_that_nothing_goes_to(self):
        self.sweeps({"main": [("mark", "a"), STOP]}, {"main": [STOP]})
        self.sweeps({"main": [("in", 0), ("mark", "a"), ("mark", "b"), ("if", "b"), ("mark", "c"), STOP]},
                    {"main": [("in", 0), ("mark", "b"), ("if", "b"), STOP]})
        for word in ("jump", "if", "unless"):
            lines = [(word, "b"), STOP, ("mark", "b"), ("mark", "c"), STOP]
            kept = [(word, "b"), *([] if word == "jump" else [STOP]), ("mark", "b"), STOP]
            self.sweeps({"main": lines}, {"main": kept})

    def test_marks_named_by_lines_that_are_not_reached(self):
        for word in ("jump", "if", "unless"):
            self.sweeps({"main": [("in", 0), ("mark", "a"), STOP, (word, "a")]}, {"main": [("in", 0), STOP]})

    def test_marks_of_a_label_that_another_function_names(self):
        self.sweeps({"main": [("mark", "a"), ("tail", "f")], "f": [("mark", "a"), ("jump", "a")]},
                    {"main": [("tail", "f")], "f": [("mark", "a"), ("jump", "a")]})

    def test_all_at_once(self):
        functions = {"main": [("mark", "x"), ("call", "f"), ("jump", "a"), ("mark", "y"), ("call", "g"), ("mark", "a"),
                              STOP, ("jump", "x")],
                     "f": [("mark", "z"), ("back",), ("mark", "w")], "g": [("call", "f"), STOP]}
        self.sweeps(functions, {"main": [("call", "f"), ("jump", "a"), ("mark", "a"), STOP], "f": [("back",)]})

    def test_bare_programs(self):
        functions = {"main": [("call", "f"), ("back",), ("call", "g")], "f": [("mark", "a"), ("back",)], "g": [STOP]}
        self.sweeps(functions, {"main": [("call", "f"), ("back",)], "f": [("back",)]}, kinds=(BareProgram,))

    def test_the_given_program_stays(self):
        program = Program({"main": [STOP, STOP], "f": [STOP]})
        swept(program)
        self.assertEqual(program.size, 3)

    def test_swept_programs_run_alike(self):
        program = Program({"main": [("mark", "m"), ("in", 0), ("same", 0, 1), ("if", "b"), ("mark", "a"), ("call", "f"),
                                    ("jump", "m"), ("out", 5), ("mark", "b"), STOP, ("pop", 0)],
                           "f": [("mark", "c"), ("out", 0), ("back",), ("out", 0)], "g": [STOP]})
        small = swept(program)
        self.assertEqual((program.size, small.size), (15, 11))
        for inputs in ([], [1, 2], [3, 0, 4]):
            self.assertEqual(run(small, inputs, 999), run(program, inputs, 999))

    def test_no_limit_holds_for_what_is_swept(self):
        chain = {name: [("tail", after)] for name, after in zip(names_of(26), names_of(26)[1:])}
        wide = Program.of_any_size({**chain, names_of(26)[-1]: [STOP], "gone": [STOP]})
        self.assertIs(is_swept(wide), False)
        self.assertEqual((len(swept(wide)), swept(wide).size), (26, 51))
        long = Program.of_any_size({"main": [("in", 0)] * 70 + [STOP, STOP]})
        self.assertEqual(len(swept(long)["main"]), 71)
        self.assertEqual(Program({"main": stops(2)}).size, 2)

    def sweeps(self, functions, expected, kinds=(Program,)):
        for kind in kinds:
            program = kind(functions)
            self.assertIs(is_swept(program), False)
            self.assertIs(is_swept(program=program), False)
            small = swept(program)
            self.assertEqual(small, kind(expected))
            self.assertIs(type(small), kind)
            self.assertIs(is_swept(small), True)
            self.assertEqual(swept(small), small)


class NotSweptTest(unittest.TestCase):
    def test_not_swept_is_a_value_error(self):
        self.assertTrue(issubclass(NotSwept, ValueError))
