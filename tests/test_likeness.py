import unittest

from foldlines.errors import NotSwept
from foldlines.folds import folded
from foldlines.holders import shown
from foldlines.likeness import alike, core, is_parted
from foldlines.programs import Program
from samples import ANY_VALUES, facts, is_right, not_swept, rings, run_alike, same, seen, twice

STOP = ("stop",)
BACK = ("back",)
CALM = Program.of(STOP)


def renamed(program, names):
    """The program with other names, and with other labels."""
    functions = {}
    for name in program.names:
        lines = []
        for line in program[name]:
            if line[0] in ("call", "tail", "addr"):
                line = (*line[:-1], names.get(line[-1], line[-1]))
            elif line[0] in ("mark", "jump", "if", "unless"):
                line = (line[0], line[1] + "z")
            lines.append(line)
        functions[names.get(name, name)] = lines
    return Program(functions)


def two_calls(f, g):
    """A program whose main calls two functions with these lines."""
    return Program({"main": [("call", "f"), ("call", "g"), STOP], "f": f, "g": g})


def addresses(first, second, *more):
    """A program whose main takes the addresses of two functions out of a, b and c, which are like."""
    names = {first, second} | {line[-1] for line in more if line[0] in ("addr", "call")}
    return Program({"main": [("addr", 0, first), ("addr", 1, second), *more, STOP],
                    **{name: [("out", 2), BACK] for name in sorted(names)}})


COMPARED = (("same", 0, 1),)


class AlikeTest(unittest.TestCase):
    def told(self, one, other):
        """What alike tells of two programs, held against the papers, the cores and the runs."""
        paper = alike(one, other)
        turned = alike(other, one)
        self.assertIs(core(one) == core(other), paper is None)
        self.assertIs(turned is None, paper is None)
        if paper is None:
            for inputs in ([], [3, 4, 5]):
                self.assertTrue(run_alike(one, other, inputs, 50))
        else:
            self.assertIs(is_parted(one, other, paper), True)
            self.assertIs(is_parted(other, one, turned), True)
            self.assertIs(is_parted(one, one, paper), False)
        return paper

    def test_programs_and_themselves(self):
        for program in (rings(), seen(), twice(), facts(), CALM):
            self.assertIs(alike(one=program, other=program), None)
            self.assertIs(self.told(program, folded(program)) is None, program != seen())

    def test_other_names_and_labels(self):
        self.assertIs(self.told(rings(), renamed(rings(), {"a": "b", "b": "a"})), None)
        self.assertIs(self.told(seen(), renamed(seen(), {"a": "z", "b": "aa"})), None)
        program = Program.of(("mark", "a"), ("in", 0), ("same", 0, 1), ("if", "a"), ("less", 0, 1), ("if", "b"),
                             ("mark", "b"),
                             STOP)
        self.assertIs(self.told(program, renamed(program, {})), None)

    def test_functions_that_are_there_twice(self):
        one = Program({"main": [("call", "f"), ("call", "f"), STOP], "f": [("in", 0), BACK]})
        self.assertIs(self.told(one, two_calls([("in", 0), BACK], [("in", 0), BACK])), None)
        self.assertIs(self.told(two_calls([("in", 0), BACK], [("in", 0), BACK]), one), None)
        ring = Program({"main": [("call", "a"), ("call", "a"), STOP],
                        "a": [("push", "link"), ("out", 0), ("call", "a"), ("pop", "link"), BACK]})
        self.assertIs(self.told(rings(), ring), None)

    def test_one_line_otherwise(self):
        one = two_calls([("in", 0), BACK], [("in", 1), BACK])
        other = two_calls([("in", 0), BACK], [("in", 2), BACK])
        self.assertTrue(same(self.told(one, other), ("lines", (("main", "main", 1), ("g", "g", 0)))))
        self.assertTrue(same(self.told(CALM, Program.of(("out", 0), STOP))[0], "lines"))
        self.assertTrue(same(self.told(CALM, Program.of(("tail", "main"))), ("lines", (("main", "main", 0),))))

    def test_one_line_more(self):
        for one, other in ((Program.of(("in", 0), STOP), Program.of(("in", 0), ("in", 0), STOP)),
                           (two_calls([BACK], [BACK]), two_calls([BACK], [("out", 0), BACK]))):
            self.assertEqual(self.told(one, other)[0], "lines")
        longer = Program({"main": [("call", "f"), STOP], "f": [("in", 0), ("tail", "main")]})
        self.assertTrue(same(is_parted(longer, longer, ("lines", (("main", "main", None),))), False))

    def test_labels_at_other_lines(self):
        one = Program.of(("in", 0), ("if", "a"), ("mark", "a"), ("out", 0), ("if", "b"), ("mark", "b"), STOP)
        other = Program.of(("in", 0), ("if", "b"), ("mark", "a"), ("out", 0), ("if", "a"), ("mark", "b"), STOP)
        self.assertEqual(self.told(one, other), ("lines", (("main", "main", 1),)))

    def test_calls_of_unlike_functions(self):
        one = two_calls([("in", 0), BACK], [("out", 0), BACK])
        other = Program({"main": [("call", "g"), ("call", "f"), STOP], "f": [("in", 0), BACK], "g": [("out", 0), BACK]})
        self.assertTrue(same(self.told(one, other), ("lines", (("main", "main", 0), ("f", "g", 0)))))
        other = Program({"main": [("call", "f"), ("call", "f"), STOP], "f": [("in", 0), BACK]})
        self.assertTrue(same(self.told(one, other), ("lines", (("main", "main", 1), ("g", "f", 0)))))

    def test_addresses_that_are_not_shown(self):
        self.assertIs(self.told(addresses("a", "b"), addresses("a", "a")), None)
        self.assertIs(self.told(addresses("a", "a"), addresses("a", "b")), None)
        self.assertIs(self.told(addresses("a", "b"), addresses("b", "a")), None)

    def test_addresses_that_are_one_to_one(self):
        self.assertIs(self.told(addresses("a", "b", *COMPARED), addresses("b", "a", *COMPARED)), None)
        self.assertIs(self.told(addresses("a", "b", *COMPARED), addresses("c", "b", *COMPARED)), None)
        self.assertIs(self.told(addresses("a", "a", *COMPARED), addresses("b", "b", *COMPARED)), None)

    def test_addresses_that_are_not_one_to_one(self):
        rows = (("main", "main", 0),), (("main", "main", 1),)
        one, other = addresses("a", "b", *COMPARED), addresses("a", "a", *COMPARED)
        self.assertTrue(same(self.told(one, other), ("address", *rows)))
        self.assertTrue(same(self.told(other, one), ("address", *rows)))
        self.assertIs(is_parted(one, other, ("address", *rows[::-1])), True)
        self.assertIs(is_parted(one, other, ("address", rows[0], rows[0])), False)

    def test_addresses_of_which_one_is_shown(self):
        # Register 0 alone is compared, so that of the functions in register 1 none is shown but by another line.
        more = (("same", 0, 0),)
        self.assertEqual(shown(addresses("a", "b", *more)), ("a",))
        self.assertEqual(self.told(addresses("a", "b", *more), addresses("a", "a", *more))[0], "address")
        self.assertIs(self.told(addresses("a", "b", *more), addresses("c", "b", *more)), None)
        self.assertEqual(self.told(addresses("a", "b", ("addr", 2, "b"), *more),
                                   addresses("a", "b", ("addr", 2, "a"), *more))[0], "address")
        self.assertIs(self.told(addresses("a", "b", ("addr", 2, "b"), *more),
                                addresses("a", "b", ("addr", 2, "c"), *more)), None)

    def test_addresses_in_other_functions(self):
        def program(second):
            return Program({"main": [("addr", 0, "a"), ("same", 0, 0), ("call", "f"), STOP],
                            "f": [("push", "link"), ("call", "g"), ("pop", "link"), BACK],
                            "g": [("addr", 3, second), BACK], "a": [("out", 2), BACK],
                            **({"b": [("out", 2), BACK]} if second == "b" else {})})

        paper = self.told(program("a"), program("b"))
        rows = (("main", "main", 0),), (("main", "main", 2), ("f", "f", 1), ("g", "g", 0))
        self.assertTrue(same(paper, ("address", *rows)))
        self.assertIs(self.told(program("b"), program("b")), None)

    def test_calls_need_not_be_one_to_one(self):
        one = addresses("a", "b", ("same", 0, 1), ("call", "a"))
        self.assertIs(self.told(one, addresses("a", "b", ("same", 0, 1), ("call", "b"))), None)
        self.assertIs(self.told(one, addresses("a", "b", ("same", 0, 1), ("call", "c"))), None)


class IsPartedTest(unittest.TestCase):
    def test_any_value(self):
        one, other = addresses("a", "b", *COMPARED), addresses("a", "a", *COMPARED)
        row = (("main", "main", 0),)
        for value in (*ANY_VALUES, (), ("lines",), ("address",), ("lines", row, row), ("address", row), ("line", row),
                      ("lines", ()), ("lines", [row[0]]), ["lines", row], ("address", row, [("main", "main", 1)]),
                      ("address", row, (["main", "main", 1],)), (row, "lines"), ("lines", row[0])):
            self.assertIs(is_parted(one, other, value), False, value)
            self.assertIs(is_parted(one, other, ("lines", value)), False)
            self.assertIs(is_parted(one, other, (value, row)), False)
            self.assertIs(is_parted(one, other, ("address", row, value)), False)
            self.assertIs(is_parted(one, other, ("address", value, row)), False)
            self.assertIs(is_parted(one, other, ("address", row, (("main", "main", value),))), value == 1 and
                          value is not True)
            self.assertIs(is_parted(one, other, ("address", row, ((value, "main", 1),))), value == "main")
            self.assertIs(is_parted(one, other, ("address", row, (("main", value, 1),))), value == "main")

    def test_papers_of_lines(self):
        one = two_calls([("in", 0), ("in", 0), BACK], [("in", 1), BACK])
        other = two_calls([("in", 0), BACK], [("in", 2), BACK])
        right = [("lines", (("main", "main", 0), ("f", "f", None))), ("lines", (("main", "main", 0), ("f", "f", 1))),
                 ("lines", (("main", "main", 1), ("g", "g", 0)))]
        for paper in right:
            self.assertIs(is_parted(one=one, other=other, value=paper), True)
            self.assertIs(is_parted(one, one, paper), False)
        for row in ((("main", "main", None),), (("main", "main", 0),), (("main", "main", 0), ("f", "f", 0)),
                    (("main", "main", 0), ("f", "f", 2)), (("main", "main", 1), ("f", "f", 1)), (("f", "f", 1),),
                    (("main", "main", 2), ("f", "f", 1)), (("main", "main", 1), ("g", "g", None)),
                    (("main", "main", 1), ("g", "g", 1)), (("main", "main", 0), ("f", "g", 0)),
                    (("main", "main", None), ("f", "f", 1)), (("main", "main", True), ("g", "g", 0)),
                    (("main", "main", 1), ("g", "g", False))):
            self.assertIs(is_parted(one, other, ("lines", row)), False, row)
            self.assertIs(is_parted(one, other, ("address", row, row)), False, row)

    def test_functions_of_each_program(self):
        one = Program({"main": [("call", "f"), STOP], "f": [BACK]})
        other = Program({"main": [("call", "g"), STOP], "g": [("in", 0), BACK]})
        self.assertIs(is_parted(one, other, ("lines", (("main", "main", 0), ("f", "g", 0)))), True)
        self.assertIs(is_parted(one, other, ("lines", (("main", "main", 0), ("f", "f", 0)))), False)
        self.assertIs(is_parted(other, one, ("lines", (("main", "main", 0), ("g", "f", None)))), True)

    def test_compared_addresses_are_no_end_of_papers_of_lines(self):
        one, other = addresses("a", "b", *COMPARED), addresses("b", "a", *COMPARED)
        self.assertIs(is_parted(one, other, ("lines", (("main", "main", 0),))), False)

    def test_papers_of_addresses(self):
        one, other = addresses("a", "b", *COMPARED), addresses("a", "a", *COMPARED)
        rows = (("main", "main", 0),), (("main", "main", 1),)
        self.assertIs(is_parted(one, other, ("address", *rows)), True)
        for index in (None, 2, 3, 4, -1, False, "0"):
            self.assertIs(is_parted(one, other, ("address", (("main", "main", index),), rows[1])), False)
        calm, quiet = addresses("a", "b"), addresses("a", "a")
        self.assertIs(is_parted(calm, quiet, ("address", *rows)), False)
        self.assertIs(is_parted(calm, other, ("address", *rows)), True)
        self.assertIs(is_parted(one, quiet, ("address", *rows)), True)
        self.assertIs(is_parted(one, one, ("address", *rows)), False)

    def test_each_function_that_may_be_shown(self):
        rows = (("main", "main", 0),), (("main", "main", 1),)
        calm = addresses("a", "a", ("less", 1, 1))
        self.assertIs(is_parted(calm, addresses("a", "b", ("less", 1, 1)), ("address", *rows)), False)
        for reg in (0, 1):
            other = addresses("a", "b", ("same", reg, reg))
            self.assertEqual(shown(other), ("ab"[reg],))
            self.assertIs(is_parted(calm, other, ("address", *rows)), True)
            self.assertIs(is_parted(other, calm, ("address", *rows)), True)
            self.assertIs(is_parted(calm, other, ("address", *rows[::-1])), True)

    def test_papers_have_their_words_and_as_many_rows(self):
        one, other = two_calls([("in", 0), BACK], [BACK]), two_calls([("in", 1), BACK], [BACK])
        row = (("main", "main", 0), ("f", "f", 0))
        self.assertIs(is_parted(one, other, ("lines", row)), True)
        for paper in (("lines", row, row), ("line", row), ("address", row), ("address", row, row), (row,), ("lines",)):
            self.assertIs(is_parted(one, other, paper), False)
        one, other = addresses("a", "b", *COMPARED), addresses("a", "a", *COMPARED)
        rows = (("main", "main", 0),), (("main", "main", 1),)
        self.assertIs(is_parted(one, other, ("address", *rows)), True)
        for paper in (("lines", *rows), (None, *rows), ("address", *rows, rows[0]), ("addresses", *rows), rows):
            self.assertIs(is_parted(one, other, paper), False)

    def test_calls_are_no_addresses(self):
        one = addresses("a", "b", *COMPARED, ("call", "a"), ("call", "b"))
        other = addresses("a", "b", *COMPARED, ("call", "a"), ("call", "a"))
        rows = (("main", "main", 3),), (("main", "main", 4),)
        self.assertIs(is_parted(one, other, ("address", *rows)), False)
        self.assertIs(is_parted(one, other, ("address", (("main", "main", 1),), rows[1])), False)
        self.assertIs(alike(one, other), None)


class CoreTest(unittest.TestCase):
    def told(self, program):
        made = core(program)
        self.assertTrue(is_right(made))
        self.assertEqual(core(made), made)
        self.assertIs(alike(program, made), None)
        for inputs in ([], [3, 4]):
            self.assertTrue(run_alike(program, made, inputs, 60))
        return made.functions

    def test_cores(self):
        self.assertTrue(same(core(program=rings()).functions, {
            "a": (("push", "link"), ("out", 0), ("call", "a"), ("pop", "link"), BACK),
            "main": (("call", "a"), ("call", "a"), STOP)}))
        self.assertEqual(self.told(seen()), seen().functions)
        self.assertEqual(self.told(CALM), {"main": (STOP,)})

    def test_names_in_the_order_in_which_functions_are_met(self):
        program = Program({"main": [("call", "z"), ("call", "y"), ("call", "z"), ("call", "x"), STOP],
                           "x": [("in", 0), BACK], "y": [("in", 1), BACK], "z": [("tail", "w")],
                           "w": [("in", 2), BACK]})
        self.assertEqual(self.told(program), {
            "main": (("call", "a"), ("call", "b"), ("call", "a"), ("call", "c"), STOP),
            "a": (("tail", "d"),), "b": (("in", 1), BACK), "c": (("in", 0), BACK), "d": (("in", 2), BACK)})

    def test_labels_in_the_order_of_marks(self):
        program = Program.of(("in", 0), ("if", "c"), ("mark", "z"), ("out", 0), ("mark", "c"), ("less", 0, 1),
                             ("if", "z"),
                             STOP)
        self.assertEqual(self.told(program)["main"], (
            ("in", 0), ("if", "b"), ("mark", "a"), ("out", 0), ("mark", "b"), ("less", 0, 1), ("if", "a"), STOP))

    def test_many_functions_and_labels(self):
        names = ["x" * at for at in range(1, 8)] + ["y" * at for at in range(1, 8)] + ["z" * at for at in range(1, 8)]
        program = Program({"main": [*(("call", name) for name in names), STOP],
                           **{name: [("in", 0)] * at + [BACK] for at, name in enumerate(names[:7])},
                           **{name: [("in", 1)] * at + [BACK] for at, name in enumerate(names[7:14], 1)},
                           **{name: [("in", 2)] * at + [BACK] for at, name in enumerate(names[14:], 1)}})
        self.assertEqual([line[-1] for line in self.told(program)["main"][:-1]], list("abcdefghijklmnopqrstu"))
        labels = ["m" + chr(97 + at) for at in range(26)] + ["na", "nb"]
        lines = [("in", 0), *(("if", label) for label in labels)]
        lines += [("mark", label) for label in labels] + [STOP]
        marks = [line[1] for line in self.told(Program.of(*lines))["main"] if line[0] == "mark"]
        self.assertEqual(marks, [*"abcdefghijklmnopqrstuvwxyz", "aa", "ab"])

    def test_shown_functions_that_are_called_too(self):
        program = Program({"main": [("addr", 0, "f"), ("addr", 1, "g"), ("same", 0, 1), ("call", "f"), ("call", "h"),
                                    STOP],
                           "f": [("out", 0), BACK], "g": [("out", 0), BACK], "h": [("out", 0), BACK]})
        self.assertEqual(self.told(program), {
            "main": (("addr", 0, "a"), ("addr", 1, "b"), ("same", 0, 1), ("call", "c"), ("call", "c"), STOP),
            "a": (("out", 0), BACK), "b": (("out", 0), BACK), "c": (("out", 0), BACK)})

    def test_main_that_is_called(self):
        program = Program({"main": [("in", 0), ("tail", "f")], "f": [("in", 0), ("tail", "main")]})
        self.assertEqual(self.told(program), {"main": (("in", 0), ("tail", "main"))})
        self.assertIs(alike(program, Program.of(("in", 0), ("tail", "main"))), None)

    def test_main_that_is_shown(self):
        program = Program.of(("addr", 0, "main"), ("same", 0, 0), ("tail", "main"))
        self.assertEqual(self.told(program), {
            "a": (("addr", 0, "a"), ("same", 0, 0), ("tail", "main")),
            "main": (("addr", 0, "a"), ("same", 0, 0), ("tail", "main"))})
        other = Program({"main": [("addr", 0, "f"), ("same", 0, 0), ("tail", "f")],
                         "f": [("addr", 0, "f"), ("same", 0, 0), ("tail", "main")]})
        self.assertIs(alike(program, other), None)
        self.assertEqual(core(program), core(other))
        other = Program({"main": [("addr", 0, "f"), ("same", 0, 0), ("tail", "f")],
                         "f": [("addr", 0, "main"), ("same", 0, 0), ("tail", "f")]})
        self.assertEqual(alike(program, other)[0], "address")

    def test_addresses_that_are_not_shown(self):
        program = addresses("a", "b", ("call", "c"))
        self.assertEqual(self.told(program), {
            "a": (("out", 2), BACK), "main": (("addr", 0, "a"), ("addr", 1, "a"), ("call", "a"), STOP)})


class NotSweptTest(unittest.TestCase):
    def test_programs_that_are_not_swept(self):
        for program in not_swept():
            self.assertRaises(NotSwept, core, program)
            self.assertRaises(NotSwept, alike, program, CALM)
            self.assertRaises(NotSwept, alike, CALM, program)
            for value in ANY_VALUES:
                self.assertRaises(NotSwept, is_parted, program, CALM, value)
                self.assertRaises(NotSwept, is_parted, CALM, program, value)
