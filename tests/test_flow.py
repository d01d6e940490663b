import unittest

from foldlines.errors import UnknownName
from foldlines.flow import live, own, reached, rows, ways
from foldlines.programs import BareProgram, Program
from samples import ANY_VALUES, bare, rings, same, seen, twice

PUSH, POP = ("push", "link"), ("pop", "link")


def loop():
    """A program with a line that is not reached, and an if whose mark is next."""
    return Program.of(
        ("mark", "a"), ("in", 0), ("same", 0, 1), ("if", "b"), ("mark", "b"), ("unless", "a"), ("jump", "c"),
        ("out", 0), ("mark", "d"), ("if", "d"), ("mark", "c"), ("stop",))


class WaysTest(unittest.TestCase):
    def test_reached(self):
        self.assertTrue(same(reached(loop(), "main"), (0, 1, 2, 3, 4, 5, 6, 10, 11)))
        self.assertTrue(same(reached(program=twice(), name="double"), (0, 1)))
        self.assertEqual(reached(Program.of(("stop",), ("stop",)), "main"), (0,))
        self.assertEqual(reached(Program.of(("tail", "main"), ("out", 0)), "main"), (0,))
        self.assertEqual(reached(Program.of(("back",), ("out", 0)), "main"), (0,))

    def test_calls_lead_to_the_next_line(self):
        program = Program.of(("call", "main"), ("callr", 0), ("stop",), ("stop",))
        self.assertEqual(reached(program, "main"), (0, 1, 2))

    def test_reached_lines_ascend(self):
        program = Program.of(("jump", "c"), ("mark", "a"), ("stop",), ("mark", "b"), ("jump", "a"), ("mark", "c"),
                             ("jump", "b"))
        self.assertEqual(reached(program, "main"), (0, 1, 2, 3, 4, 5, 6))
        self.assertEqual(list(ways(program, "main").items()),
                         [(0, (5,)), (1, (2,)), (2, ()), (3, (4,)), (4, (1,)), (5, (6,)), (6, (3,))])

    def test_ways(self):
        expected = {0: (1,), 1: (2,), 2: (3,), 3: (4,), 4: (5,), 5: (0, 6), 6: (10,), 10: (11,), 11: ()}
        self.assertTrue(same(ways(loop(), "main"), expected))
        self.assertTrue(same(ways(program=twice(), name="double"), {0: (1,), 1: ()}))

    def test_ways_forward_and_back(self):
        program = Program.of(("if", "b"), ("mark", "a"), ("in", 0), ("unless", "a"), ("mark", "b"), ("if", "b"),
                             ("tail", "main"))
        self.assertEqual(ways(program, "main"),
                         {0: (1, 4), 1: (2,), 2: (3,), 3: (1, 4), 4: (5,), 5: (4, 6), 6: ()})

    def test_a_line_leads_to_itself_never_but_to_its_mark(self):
        program = Program.of(("mark", "a"), ("jump", "a"))
        self.assertEqual(ways(program, "main"), {0: (1,), 1: (0,)})

    def test_an_if_that_is_not_reached_at_the_end(self):
        program = Program.of(("mark", "a"), ("jump", "a"), ("if", "a"))
        self.assertEqual(ways(program, "main"), {0: (1,), 1: (0,)})

    def test_bare_programs(self):
        self.assertEqual(reached(bare(), "f"), (0, 1, 2, 3, 4, 5))
        self.assertEqual(ways(bare(), "f"), {0: (1,), 1: (2,), 2: (3, 4), 3: (4,), 4: (5,), 5: ()})
        self.assertEqual(live(bare()), ("f", "main"))
        self.assertEqual(live(BareProgram({"main": [("stop",)], "f": [("tail", "main")]})), ("main",))

    def test_unknown_names(self):
        for action in (reached, ways, rows, own):
            for value in ANY_VALUES:
                if value != "main":
                    with self.subTest(action, value=value):
                        with self.assertRaises(UnknownName) as caught:
                            action(twice(), value)
                        self.assertTrue(same(caught.exception.value, value))
        for action in (reached, ways):
            self.assertRaises(UnknownName, action, bare(), "g")
            self.assertRaises(UnknownName, action, bare(), ["f"])

    def test_returned_dicts_are_new(self):
        program = twice()
        for action in (ways, rows):
            first = action(program, "main")
            first.clear()
            self.assertEqual(len(action(program, "main")), 6)


class RowsTest(unittest.TestCase):
    def test_rows(self):
        link = ("link",)
        self.assertTrue(same(rows(twice(), "main"), {0: (), 1: (), 2: link, 3: link, 4: (), 5: ()}))
        self.assertTrue(same(rows(program=twice(), name="double"), {0: (), 1: ()}))

    def test_the_top_is_last(self):
        program = Program.of(("push", 0), PUSH, ("push", 3), ("write", 0, 1), ("read", 2, 2), ("pop", 0), POP,
                             ("stop",))
        self.assertEqual(rows(program, "main"), {
            0: (), 1: ("value",), 2: ("value", "link"), 3: ("value", "link", "value"), 4: ("value", "link", "value"),
            5: ("value", "link", "value"), 6: ("value", "link"), 7: ("value",)})

    def test_rows_over_jumps(self):
        program = Program.of(("push", 0), ("jump", "b"), ("mark", "a"), ("pop", 0), ("back",), ("out", 0),
                             ("mark", "b"), ("if", "a"), ("push", 1), ("jump", "c"), ("mark", "c"), ("stop",))
        one, two = ("value",), ("value", "value")
        self.assertEqual(list(rows(program, "main").items()), [
            (0, ()), (1, one), (2, one), (3, one), (4, ()), (6, one), (7, one), (8, one), (9, two), (10, two),
            (11, two)])

    def test_calls_leave_the_row(self):
        program = Program.of(("push", 0), ("call", "main"), ("callr", 0), ("stop",))
        self.assertEqual(rows(program, "main"), {0: (), 1: ("value",), 2: ("value",), 3: ("value",)})


class OwnTest(unittest.TestCase):
    def test_own(self):
        self.assertTrue(same(own(twice(), "main"), (0, 1, 2, 4, 5)))
        self.assertTrue(same(own(program=twice(), name="double"), (0, 1)))

    def test_behind_callr(self):
        program = Program.of(("callr", 0), ("in", 0), ("callr", 0), ("stop",), ("back",))
        self.assertEqual(own(program, "main"), (0,))

    def test_on_all_ways(self):
        program = Program.of(("mark", "a"), ("in", 0), ("if", "b"), PUSH, ("call", "main"), POP, ("unless", "a"),
                             ("call", "main"), ("mark", "b"), ("out", 0), ("stop",))
        self.assertEqual(own(program, "main"), (0, 1, 2, 3, 4, 6, 7))

    def test_behind_a_loop(self):
        program = Program.of(("mark", "a"), ("in", 0), ("if", "b"), ("call", "main"), ("jump", "a"), ("mark", "b"),
                             ("stop",))
        self.assertEqual(own(program, "main"), ())

    def test_ways_from_lines_that_are_not_reached_are_none(self):
        program = Program.of(("jump", "a"), ("call", "main"), ("mark", "a"), ("stop",))
        self.assertEqual(own(program, "main"), (0, 2, 3))


class LiveTest(unittest.TestCase):
    def test_live(self):
        self.assertTrue(same(live(twice()), ("double", "main")))
        self.assertTrue(same(live(program=rings()), ("a", "b", "main")))
        self.assertEqual(live(seen()), ("a", "b", "main"))

    def test_each_line_that_names_a_function(self):
        back = [("back",)]
        for line in (("call", "f"), ("tail", "f"), ("addr", 0, "f")):
            program = Program({"main": [line, ("stop",)], "f": back, "g": back})
            self.assertEqual(live(program), ("f", "main"))

    def test_lines_that_are_not_reached_name_nothing(self):
        program = Program({"main": [("stop",), ("call", "f"), ("stop",)], "f": [("back",)]})
        self.assertEqual(live(program), ("main",))

    def test_functions_that_are_not_live_name_nothing(self):
        program = Program({"main": [("tail", "z")], "z": [("addr", 0, "d"), ("stop",), ("tail", "a")],
                           "a": [("tail", "b")], "b": [("tail", "a")], "d": [("tail", "main")]})
        self.assertEqual(live(program), ("d", "main", "z"))

    def test_a_main_that_names_nothing(self):
        self.assertTrue(same(live(Program({"main": [("stop",)], "a": [("tail", "main")]})), ("main",)))
