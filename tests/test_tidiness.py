import unittest

from foldlines.errors import Untidy
from foldlines.programs import BareProgram, Program

BACK = [("back",)]
PUSH, POP = ("push", "link"), ("pop", "link")
CALL, CALLR = ("call", "f"), ("callr", 0)


class TidyTest(unittest.TestCase):
    def test_the_last_line(self):
        for line in (("out", 0), ("num", 0, 1), ("mark", "a"), CALL, CALLR, ("same", 0, 0)):
            self.untidy(line)
            self.untidy(("in", 0), line)
        self.untidy(("mark", "a"), ("if", "a"))
        self.untidy(("mark", "a"), ("unless", "a"))
        self.tidy(("mark", "a"), ("jump", "a"))
        self.tidy(("back",))
        self.tidy(("stop",))
        self.tidy(("tail", "f"))
        self.untidy(("if", "a"), ("stop",), ("mark", "a"), ("out", 0))

    def test_the_last_line_if_it_is_not_reached(self):
        for line in (("out", 0), ("pop", 0), ("mark", "a"), CALL, ("if", "b"), POP, PUSH):
            self.tidy(("mark", "b"), ("stop",), line)
            self.tidy(("mark", "b"), ("jump", "b"), line)

    def test_one_row_on_all_ways(self):
        self.untidy(("if", "a"), ("push", 0), ("mark", "a"), ("stop",))
        self.tidy(("if", "a"), ("push", 0), ("pop", 0), ("mark", "a"), ("stop",))
        self.untidy(("mark", "a"), ("push", 0), ("jump", "a"))
        self.untidy(("mark", "a"), ("push", 0), ("if", "a"), ("stop",))
        self.untidy(("push", 0), ("mark", "a"), ("pop", 0), ("jump", "a"))
        self.tidy(("push", 0), ("mark", "a"), ("pop", 0), ("push", 1), ("jump", "a"))
        self.untidy(("if", "a"), ("push", 0), ("jump", "b"), ("mark", "a"), PUSH, ("mark", "b"), ("stop",))
        self.tidy(("if", "a"), ("push", 0), ("jump", "b"), ("mark", "a"), ("push", 1), ("mark", "b"), ("stop",))
        self.untidy(("push", 0), ("push", 0), ("unless", "a"), ("pop", 0), ("stop",), ("mark", "a"), ("pop", 0),
                    ("pop", 0), ("if", "a"), ("back",))

    def test_the_first_line_has_no_row(self):
        self.untidy(("mark", "a"), ("push", 0), ("jump", "a"))
        self.tidy(("mark", "a"), ("push", 0), ("pop", 1), ("jump", "a"))

    def test_ways_from_lines_that_are_not_reached_are_none(self):
        self.tidy(("jump", "a"), ("push", 0), ("mark", "a"), ("back",))
        self.tidy(("jump", "a"), CALL, ("mark", "a"), ("back",))
        self.tidy(("jump", "a"), ("pop", 0), ("read", 0, 3), POP, ("mark", "a"), ("back",))
        self.untidy(("jump", "a"), ("mark", "b"), ("back",), ("mark", "a"), CALL, ("jump", "b"))

    def test_lines_that_are_not_reached(self):
        for line in (("pop", 0), POP, PUSH, ("read", 0, 0), ("write", 0, 0), CALL, ("back",)):
            self.tidy(("stop",), line, ("stop",))
            self.tidy(("back",), ("push", 0), CALL, line, ("back",))
        self.tidy(("push", 0), ("stop",), ("back",))
        self.tidy(CALL, ("stop",), ("back",), PUSH)

    def test_pops(self):
        self.untidy(("pop", 0), ("stop",))
        self.untidy(POP, ("stop",))
        self.tidy(("push", 0), ("pop", 5), ("stop",))
        self.tidy(PUSH, POP, ("stop",))
        self.untidy(("push", 0), POP, ("stop",))
        self.untidy(PUSH, ("pop", 0), ("stop",))
        self.untidy(("push", 0), ("pop", 0), ("pop", 0), ("stop",))
        self.tidy(("push", 0), PUSH, POP, ("pop", 0), ("back",))
        self.untidy(("push", 0), PUSH, ("pop", 0), POP, ("stop",))
        self.untidy(PUSH, ("push", 0), POP, ("pop", 0), ("stop",))

    def test_reads_and_writes(self):
        for at in (0, 1):
            access = [lambda k: ("read", 3, k), lambda k: ("write", k, 3)][at]
            self.untidy(access(0), ("stop",))
            self.tidy(("push", 0), access(0), ("stop",))
            self.untidy(("push", 0), access(1), ("stop",))
            self.untidy(PUSH, access(0), ("stop",))
            self.tidy(PUSH, ("push", 0), access(0), ("stop",))
            self.untidy(PUSH, ("push", 0), access(1), ("stop",))
            self.tidy(("push", 0), PUSH, access(1), ("stop",))
            self.untidy(("push", 0), PUSH, access(0), ("stop",))
            self.untidy(("push", 0), PUSH, access(2), ("stop",))
            self.untidy(("push", 0), ("push", 0), ("push", 0), access(3), ("stop",))
            self.tidy(("push", 0), ("push", 0), ("push", 0), access(2), ("stop",))
            self.untidy(("push", 0), access(59), ("stop",))
            self.untidy(("push", 0), ("pop", 0), access(0), ("stop",))

    def test_the_deepest_entry(self):
        pushes = [("push", 0)] * 58
        self.tidy(*pushes, ("read", 0, 57), ("stop",))
        self.untidy(*pushes, ("read", 0, 58), ("stop",))

    def test_back_and_tail_leave_no_entries(self):
        for end in (("back",), ("tail", "f")):
            self.untidy(("push", 0), end)
            self.untidy(PUSH, end)
            self.tidy(("push", 0), ("pop", 0), end)
            self.tidy(PUSH, POP, end)
        self.tidy(("push", 0), PUSH, ("stop",))

    def test_the_link_behind_calls(self):
        for call in (CALL, CALLR, ("call", "main")):
            for line in (PUSH, ("back",), ("tail", "f")):
                self.untidy(call, line, ("stop",))
                self.untidy(call, ("in", 0), ("mark", "a"), line, ("stop",))
                self.untidy(("push", 0), call, ("pop", 0), line, ("stop",))
            self.tidy(call, ("stop",))
            self.tidy(call, call, ("stop",))
            self.tidy(PUSH, call, POP, ("back",))
            self.tidy(PUSH, call, POP, PUSH, call, POP, ("tail", "f"))
            self.untidy(PUSH, call, POP, call, ("back",))
            self.tidy(PUSH, PUSH, call, POP, POP, ("back",))
            self.untidy(PUSH, call, PUSH, POP, ("stop",))

    def test_the_link_on_all_ways(self):
        self.untidy(("if", "a"), CALL, ("mark", "a"), ("back",))
        self.untidy(("if", "a"), ("mark", "b"), ("back",), ("mark", "a"), CALL, ("jump", "b"))
        self.tidy(("if", "a"), PUSH, CALL, POP, ("mark", "a"), ("back",))
        self.untidy(("mark", "a"), PUSH, POP, CALL, ("jump", "a"))
        self.untidy(("mark", "a"), PUSH, POP, CALL, ("if", "a"), ("stop",))
        self.untidy(("mark", "a"), ("if", "b"), CALL, ("jump", "a"), ("mark", "b"), ("back",))
        self.tidy(("mark", "a"), ("if", "b"), CALL, ("jump", "a"), ("mark", "b"), ("stop",))

    def test_the_link_is_own_behind_its_pop_alone(self):
        self.untidy(PUSH, CALL, ("push", 0), ("pop", 0), ("back",))
        self.untidy(PUSH, ("push", 0), CALL, ("pop", 0), PUSH, ("stop",))
        self.tidy(PUSH, ("push", 0), CALL, ("pop", 0), POP, PUSH, ("stop",))

    def test_a_tail_may_go_to_the_function_itself(self):
        self.tidy(("tail", "main"))
        self.untidy(("call", "main"), ("tail", "main"))

    def test_the_first_untidy_function_is_told(self):
        with self.assertRaises(Untidy) as caught:
            Program({"main": [("out", 0)], "b": [("out", 0)], "a": BACK, "c": [("pop", 0), ("stop",)]})
        self.assertEqual(caught.exception.name, "b")

    def tidy(self, *lines):
        self.assertEqual(Program({"main": lines, "f": BACK})["main"], lines)

    def untidy(self, *lines):
        with self.assertRaises(Untidy) as caught:
            Program({"main": lines, "f": BACK})
        self.assertEqual(caught.exception.name, "main")
        with self.assertRaises(Untidy) as caught:
            Program({"main": BACK, "f": lines})
        self.assertEqual(caught.exception.name, "f")


class BareTidyTest(unittest.TestCase):
    def test_bare_programs_are_asked_for_their_last_line_alone(self):
        for line in (("out", 0), CALL, ("mark", "a")):
            with self.assertRaises(Untidy) as caught:
                BareProgram({"main": [line], "f": BACK})
            self.assertEqual(caught.exception.name, "main")
        for lines in ([CALL, ("back",)], [CALLR, ("tail", "f")], [("if", "a"), CALL, ("mark", "a"), ("back",)],
                      [("stop",), ("out", 0)], [("mark", "a"), CALL, ("jump", "a")]):
            self.assertEqual(BareProgram({"main": lines, "f": BACK})["main"], tuple(lines))
