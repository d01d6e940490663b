import unittest

from foldlines.errors import InvalidInputs
from foldlines.programs import BareProgram, Program
from foldlines.runs import Run, run
from samples import ANY_VALUES, bare, same, seen, twice

LOW, HIGH = -(2 ** 31), 2 ** 31 - 1
PUSH, POP = ("push", "link"), ("pop", "link")


def outputs(*lines, inputs=(), functions=None):
    """What a program with these lines in main puts out."""
    return run(Program({"main": lines, **(functions or {})}), inputs, 1000)[0]


class LinesTest(unittest.TestCase):
    """What each line does."""

    def test_num_and_copy(self):
        lines = (("num", 3, -7), ("copy", 1, 3), ("num", 3, 5), ("out", 1), ("out", 3), ("stop",))
        self.assertEqual(outputs(*lines), (-7, 5))

    def test_registers_begin_with_0(self):
        self.assertEqual(outputs(*[("out", r) for r in range(6)], ("stop",)), (0,) * 6)

    def test_sums_differences_products(self):
        for word, result in (("add", 4), ("sub", 10), ("mul", -21)):
            self.assertEqual(outputs(("num", 1, 7), ("num", 2, -3), (word, 0, 1, 2), ("out", 0), ("stop",)), (result,))
            squared = {"add": 14, "sub": 0, "mul": 49}[word]
            self.assertEqual(outputs(("num", 1, 7), (word, 1, 1, 1), ("out", 1), ("stop",)), (squared,))

    def test_wrapping(self):
        cases = [("add", HIGH, 1, LOW), ("add", HIGH, HIGH, -2), ("add", LOW, LOW, 0), ("add", LOW, -1, HIGH),
                 ("add", HIGH, 0, HIGH), ("add", LOW, 0, LOW), ("sub", LOW, 1, HIGH), ("sub", HIGH, -1, LOW),
                 ("sub", 0, LOW, LOW), ("sub", HIGH, LOW, -1), ("mul", HIGH, 2, -2), ("mul", LOW, LOW, 0),
                 ("mul", LOW, -1, LOW), ("mul", HIGH, HIGH, 1), ("mul", 65536, 65536, 0), ("mul", 65536, 32768, LOW),
                 ("mul", HIGH, LOW, LOW), ("mul", 123456789, 987654321, -67153019)]
        for word, left, right, result in cases:
            with self.subTest(word, left=left, right=right):
                told = outputs(("in", 0), ("in", 1), (word, 2, 0, 1), ("out", 2), ("stop",), inputs=[left, right])
                self.assertTrue(same(told, (result,)))

    def test_same_and_less(self):
        for word, cases in (("same", {(1, 1): 1, (1, 2): 0, (2, 1): 0}), ("less", {(1, 1): 0, (1, 2): 1, (2, 1): 0,
                                                                                  (LOW, HIGH): 1, (-1, 0): 1})):
            for (left, right), flag in cases.items():
                lines = (("in", 0), ("in", 1), (word, 0, 1), ("if", "a"), ("out", 2), ("stop",), ("mark", "a"),
                         ("num", 2, 1), ("out", 2), ("stop",))
                self.assertEqual(outputs(*lines, inputs=[left, right]), (flag,))

    def test_same_becomes_false_again(self):
        lines = (("same", 0, 0), ("num", 1, 3), ("same", 0, 1), ("unless", "a"), ("stop",), ("mark", "a"), ("out", 1),
                 ("stop",))
        self.assertEqual(outputs(*lines), (3,))

    def test_addresses_are_the_same_only_as_themselves(self):
        functions = {"f": [("back",)], "g": [("back",)], "main": [
            ("addr", 0, "f"), ("addr", 1, "f"), ("addr", 2, "g"), ("copy", 3, 2)]}
        for left, right, flag in ((0, 1, 1), (0, 2, 0), (2, 3, 1), (0, 4, 0), (4, 0, 0), (4, 5, 1), (0, 0, 1)):
            lines = [*functions["main"], ("same", left, right), ("if", "a"), ("stop",), ("mark", "a"), ("out", 4),
                     ("stop",)]
            told = run(Program({**functions, "main": lines}), [], 99)
            self.assertEqual(told[:2], ((0,) * flag, "stop"))

    def test_inputs(self):
        lines = (("in", 0), ("out", 0), ("in", 0), ("out", 0), ("in", 0), ("out", 0), ("in", 0), ("out", 0), ("stop",))
        self.assertEqual(outputs(*lines, inputs=[5, LOW]), (5, LOW, 0, 0))
        self.assertEqual(outputs(*lines, inputs=()), (0, 0, 0, 0))
        self.assertEqual(outputs(*lines, inputs=(1, 2, 3, 4, 5)), (1, 2, 3, 4))

    def test_an_input_behind_the_last_one_takes_the_place_of_a_value(self):
        self.assertEqual(outputs(("num", 0, 9), ("in", 0), ("out", 0), ("stop",)), (0,))

    def test_stack(self):
        lines = (("num", 0, 1), ("num", 1, 2), ("num", 2, 3), ("push", 0), ("push", 1), ("push", 2), ("read", 3, 0),
                 ("out", 3), ("read", 3, 2), ("out", 3), ("write", 1, 2), ("read", 4, 1), ("out", 4), ("pop", 5),
                 ("out", 5), ("pop", 5), ("out", 5), ("pop", 5), ("out", 5), ("stop",))
        self.assertEqual(outputs(*lines), (3, 1, 3, 3, 3, 1))

    def test_a_write_changes_one_entry(self):
        lines = (("num", 0, 1), ("push", 0), ("push", 0), ("num", 0, 2), ("write", 0, 0), ("pop", 1), ("pop", 2),
                 ("out", 1), ("out", 2), ("stop",))
        self.assertEqual(outputs(*lines), (2, 1))

    def test_the_stack_is_kept_over_calls(self):
        functions = {"f": [("num", 0, 7), ("push", 0), ("num", 0, 8), ("pop", 1), ("back",)]}
        lines = (("num", 0, 1), ("push", 0), ("call", "f"), ("read", 2, 0), ("out", 1), ("out", 2), ("stop",))
        self.assertEqual(outputs(*lines, functions=functions), (7, 1))

    def test_jumps(self):
        lines = (("jump", "b"), ("mark", "a"), ("out", 0), ("stop",), ("mark", "b"), ("num", 0, 4), ("jump", "a"))
        self.assertEqual(outputs(*lines), (4,))

    def test_if_and_unless(self):
        for word, flag, taken in (("if", True, True), ("if", False, False), ("unless", True, False),
                                  ("unless", False, True)):
            lines = ([("same", 0, 0)] if flag else []) + [
                (word, "a"), ("num", 0, 1), ("mark", "a"), ("out", 0), ("stop",)]
            self.assertEqual(outputs(*lines), (0 if taken else 1,))

    def test_labels_are_those_of_the_function(self):
        functions = {"f": [("jump", "a"), ("mark", "b"), ("mark", "a"), ("num", 0, 2), ("back",)]}
        lines = (("mark", "a"), ("call", "f"), ("jump", "b"), ("mark", "b"), ("out", 0), ("stop",))
        self.assertEqual(outputs(*lines, functions=functions), (2,))

    def test_calls_and_tails(self):
        functions = {"f": [("out", 0), PUSH, ("call", "g"), POP, ("num", 0, 3), ("tail", "g")],
                     "g": [("out", 0), ("num", 0, 2), ("back",)]}
        lines = (("num", 0, 1), ("call", "f"), ("out", 0), ("stop",))
        self.assertEqual(outputs(*lines, functions=functions), (1, 1, 3, 2))

    def test_callr(self):
        functions = {"f": [("num", 0, 5), ("back",)], "g": [("num", 0, 6), ("back",)]}
        lines = (("addr", 3, "g"), ("callr", 3), ("out", 0), ("addr", 3, "f"), ("callr", 3), ("out", 0), ("stop",))
        self.assertEqual(outputs(*lines, functions=functions), (6, 5))

    def test_addresses_on_the_stack(self):
        functions = {"f": [("num", 0, 5), ("back",)], "g": [("num", 0, 6), ("back",)]}
        lines = (("addr", 1, "f"), ("addr", 2, "g"), ("push", 1), ("push", 5), ("write", 0, 2), ("read", 3, 1),
                 ("pop", 4), ("callr", 4), ("out", 0), ("callr", 3), ("out", 0), ("copy", 5, 3), ("same", 5, 1),
                 ("if", "a"), ("stop",), ("mark", "a"), ("out", 5), ("stop",))
        program = Program({"main": lines, **functions})
        self.assertEqual(run(program, [], 99)[:2], ((6, 5), "kind"))

    def test_recursion(self):
        # The sum of all numbers up to the first input: each call keeps its number and its link on the stack.
        functions = {"f": [("same", 0, 1), ("if", "a"), PUSH, ("push", 0), ("num", 2, 1), ("sub", 0, 0, 2),
                           ("call", "f"), ("pop", 0), ("add", 3, 3, 0), POP, ("mark", "a"), ("back",)]}
        program = Program({"main": [("in", 0), ("call", "f"), ("out", 3), ("stop",)], **functions})
        self.assertEqual(run(program, [100], 99999)[:2], ((5050,), "stop"))
        self.assertEqual(run(program, [3000], 99999)[:2], ((4501500,), "stop"))


class EndsTest(unittest.TestCase):
    def test_stop(self):
        self.assertTrue(same(run(Program.of(("stop",)), [], 9), ((), "stop", 1)))
        program = Program({"main": [("call", "f"), ("out", 0), ("back",)][:2] + [("stop",)], "f": [("stop",)]})
        self.assertEqual(run(program, [], 9), ((), "stop", 2))

    def test_back(self):
        self.assertEqual(run(Program.of(("back",)), [], 9), ((), "back", 1))
        program = Program({"main": [("tail", "f")], "f": [("out", 0), ("back",)]})
        self.assertEqual(run(program, [], 9), ((0,), "back", 3))
        self.assertEqual(run(twice(), [], 20), ((10,), "back", 8))

    def test_a_function_that_is_called_end(self):
        program = Program({"main": [("addr", 0, "end"), ("push", 0), PUSH, ("callr", 0), POP, ("pop", 1), ("callr", 1),
                                    ("stop",)], "end": [("out", 2), ("back",)]})
        self.assertEqual(run(program, [], 99), ((0, 0), "stop", 12))

    def test_kind_for_each_line(self):
        for line in (("add", 2, 0, 1), ("add", 2, 1, 0), ("sub", 2, 0, 1), ("sub", 2, 1, 0), ("mul", 2, 0, 1),
                     ("mul", 2, 1, 0), ("add", 0, 0, 0), ("less", 0, 1), ("less", 1, 0), ("less", 0, 0), ("out", 0),
                     ("callr", 1)):
            with self.subTest(line):
                program = Program.of(("addr", 0, "main"), ("out", 1), line, ("out", 1), ("stop",))
                self.assertEqual(run(program, [], 99), ((0,), "kind", 3))

    def test_callr_of_any_number(self):
        for number in (0, 1, -1, LOW, HIGH):
            program = Program.of(("num", 0, number), ("callr", 0), ("stop",))
            self.assertEqual(run(program, [], 99), ((), "kind", 2))

    def test_lines_that_take_any_value(self):
        program = Program.of(("addr", 0, "main"), ("copy", 1, 0), ("same", 0, 1), ("same", 0, 2), ("push", 0),
                             ("write", 0, 1), ("read", 2, 0), ("pop", 3), ("num", 0, 1), ("in", 1), ("stop",))
        self.assertEqual(run(program, [], 99), ((), "stop", 11))

    def test_numbers_of_kind_lines_are_asked_in_the_registers_that_are_taken(self):
        program = Program.of(("addr", 2, "main"), ("add", 2, 0, 1), ("out", 2), ("addr", 2, "main"), ("sub", 2, 0, 1),
                             ("out", 2), ("addr", 2, "main"), ("mul", 2, 0, 1), ("out", 2), ("stop",))
        self.assertEqual(run(program, [], 99), ((0, 0, 0), "stop", 10))

    def test_runs_that_do_not_end(self):
        program = Program.of(("mark", "a"), ("out", 0), ("jump", "a"))
        self.assertEqual(run(program, [], 5), ((0, 0, 0), None, 5))
        self.assertEqual(run(Program.of(("mark", "a"), ("jump", "a")), [], 1000), ((), None, 1000))
        self.assertEqual(run(Program.of(("tail", "main")), [], 1000), ((), None, 1000))

    def test_at_most_so_many_steps(self):
        self.assertEqual(run(twice(), [], 0), ((), None, 0))
        self.assertEqual(run(twice(), [], 6), ((), None, 6))
        self.assertEqual(run(twice(), [], 7), ((10,), None, 7))
        self.assertEqual(run(twice(), [], 8), ((10,), "back", 8))
        self.assertTrue(same(run(program=twice(), inputs=[], most=10 ** 12), ((10,), "back", 8)))

    def test_the_link_of_a_stack_without_end(self):
        program = Program({"main": [PUSH, ("call", "main"), POP, ("back",)]})
        ran = Run(program)
        ran.go(10001)
        self.assertEqual((ran.end, ran.steps, ran.depth), (None, 10001, 5001))


class RunTest(unittest.TestCase):
    def test_at_the_beginning(self):
        ran = Run(twice())
        self.assertTrue(same([ran.outputs, ran.end, ran.steps, ran.place, ran.depth, ran.visits],
                             [(), None, 0, ("main", 0), 0, {}]))

    def test_step_by_step(self):
        ran = Run(program=twice(), inputs=[])
        told = []
        for _ in range(10):
            told.append((ran.place, ran.depth, ran.steps, ran.end, ran.outputs))
            self.assertIsNone(ran.step())
        places = [("main", 0), ("main", 1), ("main", 2), ("double", 0), ("double", 1), ("main", 3), ("main", 4),
                  ("main", 5), None, None]
        depths = [0, 0, 1, 1, 1, 1, 0, 0, 0, 0]
        self.assertEqual([row[0] for row in told], places)
        self.assertEqual([row[1] for row in told], depths)
        self.assertEqual([row[2] for row in told], [0, 1, 2, 3, 4, 5, 6, 7, 8, 8])
        self.assertEqual([row[3] for row in told], [None] * 8 + ["back"] * 2)
        self.assertEqual([row[4] for row in told], [()] * 7 + [(10,)] * 3)

    def test_nothing_is_done_behind_the_end(self):
        for lines in ([("push", 0), ("stop",)], [("push", 0), ("pop", 0), ("back",)],
                      [("push", 0), ("callr", 0), ("stop",)]):
            ran = Run(Program.of(*lines))
            ran.go(99)
            before = (ran.outputs, ran.end, ran.steps, ran.place, ran.depth, ran.visits)
            ran.step()
            ran.go(5)
            self.assertEqual(list(ran.walk()), [])
            self.assertEqual((ran.outputs, ran.end, ran.steps, ran.place, ran.depth, ran.visits), before)
            self.assertIsNone(ran.place)

    def test_the_depth_behind_the_end(self):
        ran = Run(Program.of(("push", 0), PUSH, ("stop",)))
        ran.go(9)
        self.assertEqual((ran.depth, ran.end, ran.steps), (2, "stop", 3))

    def test_marks_are_no_steps(self):
        program = Program({"main": [("mark", "a"), ("mark", "b"), ("call", "f"), ("mark", "c"), ("if", "e"),
                                    ("jump", "d"), ("mark", "e"), ("mark", "d"), ("mark", "g"), ("stop",)],
                           "f": [("mark", "a"), ("in", 0), ("mark", "b"), ("back",)]})
        ran = Run(program)
        self.assertEqual(ran.place, ("main", 2))
        self.assertEqual(list(ran.walk()), [("main", 2), ("f", 1), ("f", 3), ("main", 4), ("main", 5), ("main", 9)])
        self.assertEqual((ran.steps, ran.end), (6, "stop"))
        self.assertEqual(ran.visits, {("f", 1): 1, ("f", 3): 1, ("main", 2): 1, ("main", 4): 1, ("main", 5): 1,
                                      ("main", 9): 1})

    def test_go(self):
        ran = Run(twice())
        self.assertIsNone(ran.go(3))
        self.assertEqual((ran.steps, ran.place), (3, ("double", 0)))
        ran.go(0)
        self.assertEqual(ran.steps, 3)
        ran.go(many=4)
        self.assertEqual((ran.steps, ran.end), (7, None))
        ran.go(10 ** 12)
        self.assertEqual((ran.steps, ran.end), (8, "back"))

    def test_visits(self):
        program = Program.of(("mark", "a"), ("in", 0), ("same", 0, 1), ("unless", "a"), ("stop",))
        ran = Run(program, [3, 2, 1])
        ran.go(5)
        self.assertTrue(same(ran.visits, {("main", 1): 2, ("main", 2): 2, ("main", 3): 1}))
        ran.go(99)
        self.assertTrue(same(ran.visits, {("main", 1): 4, ("main", 2): 4, ("main", 3): 4, ("main", 4): 1}))
        self.assertEqual(sum(ran.visits.values()), ran.steps)
        ran.visits.clear()
        self.assertEqual(len(ran.visits), 4)

    def test_visits_ascend(self):
        ran = Run(Program({"main": [("call", "z"), ("jump", "a"), ("mark", "b"), ("stop",), ("mark", "a"),
                                    ("call", "a"), ("jump", "b")], "a": [("back",)], "z": [("tail", "a")]}))
        ran.go(99)
        self.assertEqual(list(ran.visits.items()), [
            (("a", 0), 2), (("main", 0), 1), (("main", 1), 1), (("main", 3), 1), (("main", 5), 1), (("main", 6), 1),
            (("z", 0), 1)])

    def test_the_line_that_ends_a_run_is_visited(self):
        for line in (("stop",), ("back",), ("callr", 0)):
            ran = Run(Program.of(line, ("stop",)))
            ran.go(9)
            self.assertEqual((ran.visits, ran.steps), ({("main", 0): 1}, 1))

    def test_walk(self):
        ran = Run(twice())
        walk = ran.walk()
        self.assertIs(iter(walk), walk)
        self.assertEqual(ran.steps, 0)
        self.assertEqual(next(walk), ("main", 0))
        self.assertEqual((ran.steps, ran.place), (0, ("main", 0)))
        self.assertEqual(next(walk), ("main", 1))
        self.assertEqual((ran.steps, ran.place), (1, ("main", 1)))
        self.assertEqual(next(walk), ("main", 2))
        self.assertEqual((ran.steps, ran.depth), (2, 1))
        rest = list(walk)
        self.assertEqual(rest, [("double", 0), ("double", 1), ("main", 3), ("main", 4), ("main", 5)])
        self.assertEqual((ran.steps, ran.end, ran.outputs), (8, "back", (10,)))

    def test_a_walk_that_is_taken_in_part(self):
        ran = Run(twice())
        for place in ran.walk():
            if place == ("double", 0):
                break
        self.assertEqual((ran.steps, ran.place, ran.visits), (3, ("double", 0), {("main", at): 1 for at in range(3)}))
        self.assertEqual(next(ran.walk()), ("double", 0))
        self.assertEqual(ran.steps, 3)
        ran.go(2)
        self.assertEqual(list(ran.walk()), [("main", 3), ("main", 4), ("main", 5)])

    def test_the_last_step_of_a_walk(self):
        ran = Run(Program.of(("stop",)))
        walk = ran.walk()
        self.assertEqual((next(walk), ran.end), (("main", 0), None))
        self.assertIsNone(next(walk, None))
        self.assertEqual((ran.end, ran.steps), ("stop", 1))

    def test_a_walk_without_end(self):
        ran = Run(Program.of(("mark", "a"), ("out", 0), ("jump", "a")))
        walk = ran.walk()
        self.assertEqual([next(walk) for _ in range(5)], [("main", 1), ("main", 2)] * 2 + [("main", 1)])
        self.assertEqual(ran.steps, 4)

    def test_several_runs_of_one_program(self):
        program = Program.of(("in", 0), ("push", 0), ("in", 0), ("out", 0), ("stop",))
        one, other = Run(program, [1, 2]), Run(program, [3, 4])
        one.go(2)
        other.go(1)
        self.assertEqual((one.place, one.depth, other.place, other.depth), (("main", 2), 1, ("main", 1), 0))
        other.go(9)
        one.go(9)
        self.assertEqual((one.outputs, other.outputs), ((2,), (4,)))
        self.assertEqual(run(program, [1, 2], 99), run(program, (1, 2), 99))

    def test_inputs_are_copied(self):
        inputs = [1, 2]
        ran = Run(Program.of(("in", 0), ("out", 0), ("in", 0), ("out", 0), ("stop",)), inputs)
        inputs[0] = 7
        inputs.clear()
        ran.go(9)
        self.assertEqual(ran.outputs, (1, 2))
        kept = [1, 2]
        run(Program.of(("in", 0), ("stop",)), kept, 9)
        self.assertEqual(kept, [1, 2])

    def test_inputs_that_are_none(self):
        wrong = [value for value in ANY_VALUES if value not in ([], ())]
        wrong += [[True], [1, False], [1, None], [HIGH + 1], [LOW - 1], [0, 10 ** 59], ["1"], "1", [[1]], [(1,)],
                  {1: 2}, 1, (1, "f"), (1, True)]
        for value in wrong:
            for action in (lambda value: Run(twice(), value), lambda value: run(twice(), value, 9)):
                with self.subTest(value):
                    with self.assertRaises(InvalidInputs) as caught:
                        action(value)
                    self.assertTrue(same(caught.exception.value, value))

    def test_the_greatest_and_least_inputs(self):
        lines = (("in", 0), ("out", 0), ("in", 0), ("out", 0), ("stop",))
        self.assertEqual(outputs(*lines, inputs=[LOW, HIGH]), (LOW, HIGH))

    def test_runs_of_seen(self):
        self.assertEqual(run(seen(), [], 99), ((0, 0), "stop", 8))


class BareRunTest(unittest.TestCase):
    def test_calls_come_back_by_themselves(self):
        program = BareProgram({"main": [("call", "f"), ("call", "f"), ("out", 0), ("back",)],
                               "f": [("call", "g"), ("call", "g"), ("back",)],
                               "g": [("num", 1, 1), ("add", 0, 0, 1), ("back",)]})
        self.assertEqual(run(program, [], 99)[:2], ((4,), "back"))

    def test_the_hidden_row(self):
        program = BareProgram({"main": [("call", "f"), ("back",)], "f": [("addr", 0, "g"), ("callr", 0), ("back",)],
                               "g": [("tail", "h")], "h": [("back",)]})
        ran = Run(program)
        told = []
        while ran.end is None:
            told.append((ran.place, ran.depth))
            ran.step()
        self.assertEqual(told, [(("main", 0), 0), (("f", 0), 1), (("f", 1), 1), (("g", 0), 2), (("h", 0), 2),
                                (("f", 2), 1), (("main", 1), 0)])
        self.assertEqual((ran.end, ran.depth, ran.steps), ("back", 0, 7))

    def test_a_back_at_an_empty_row_ends(self):
        self.assertEqual(run(BareProgram.of(("back",)), [], 9), ((), "back", 1))
        program = BareProgram({"main": [("tail", "f")], "f": [("out", 0), ("back",)]})
        self.assertEqual(run(program, [], 9), ((0,), "back", 3))

    def test_the_end_in_the_depths(self):
        program = BareProgram({"main": [("call", "f"), ("back",)], "f": [("call", "g"), ("back",)], "g": [("stop",)]})
        ran = Run(program)
        ran.go(9)
        self.assertEqual((ran.end, ran.depth, ran.steps, ran.place), ("stop", 2, 3, None))

    def test_kind(self):
        self.assertEqual(run(BareProgram.of(("callr", 0), ("back",)), [], 9), ((), "kind", 1))
        ran = Run(BareProgram.of(("callr", 0), ("back",)))
        ran.go(9)
        self.assertEqual(ran.depth, 0)
        program = BareProgram.of(("addr", 0, "main"), ("out", 0), ("back",))
        self.assertEqual(run(program, [], 9), ((), "kind", 2))

    def test_recursion(self):
        program = BareProgram({"main": [("call", "f"), ("out", 1), ("back",)],
                               "f": [("in", 0), ("same", 0, 2), ("if", "a"), ("add", 1, 1, 0), ("call", "f"),
                                     ("mark", "a"), ("back",)]})
        self.assertEqual(run(program, [1, 2, 3, 4], 99)[:2], ((10,), "back"))

    def test_main_may_be_called(self):
        program = BareProgram.of(("in", 0), ("same", 0, 1), ("if", "a"), ("call", "main"), ("mark", "a"), ("out", 0),
                                 ("back",))
        self.assertEqual(run(program, [1, 2], 99)[:2], ((0, 0, 0), "back"))

    def test_the_example(self):
        self.assertEqual(run(bare(), [-1, 3], 99)[:2], ((-1,), "back"))
        self.assertEqual(run(bare(), [1, -3], 99)[:2], ((-3,), "back"))
