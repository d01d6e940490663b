import unittest

import reference_more as more
from foldlines.errors import NotSwept, UnknownName
from foldlines.links import is_saving, linked, saving, saving_paper
from foldlines.programs import BareProgram, Program
from samples import ANY_VALUES, bare, is_right, not_swept, run_alike, same

STOP = ("stop",)
BACK = ("back",)
PUSH = ("push", "link")
POP = ("pop", "link")
CALL = ("call", "g")
IN = ("in", 0)
PAPER = ((3,), ((-1, 0, 1, 2, 3), (5, 4, 3)))


def with_callee(*lines):
    """A bare program whose function f has these lines, and calls g."""
    functions = {"main": [("call", "f"), ("out", 0), STOP], "f": lines}
    return BareProgram({**functions, "g": [IN, BACK]} if CALL in lines or ("addr", 2, "g") in lines else functions)


class SavingTest(unittest.TestCase):
    def told(self, *lines):
        """What is saved of f, how many steps are paid, and its lines with links."""
        program = with_callee(*lines)
        for name in program.names:
            least, found = more.least_choices(program[name])
            fewest = min(found, key=len)
            value = saving(program, name)
            self.assertTrue(same(value, tuple(sorted(fewest))))
            self.assertTrue(all(fewest <= saved for saved in found))
            paper = saving_paper(program, name)
            self.assertEqual(len(paper[1]), least)
            self.assertTrue(more.is_saving(program[name], paper))
            for saved in found:
                self.assertIs(is_saving(program, name, (tuple(sorted(saved)), paper[1])), True)
        made = linked(program)
        self.assertTrue(is_right(made))
        self.assertEqual(made["f"], more.linked(program["f"], saving(program, "f")))
        for inputs in ([], [1, 1, 1], [-3, 4, -5, 6]):
            self.assertTrue(run_alike(program, made, inputs, 99))
        return saving(program, "f"), len(saving_paper(program, "f")[1]), made["f"]

    def test_saving(self):
        self.assertTrue(same(saving(bare=bare(), name="f"), (3,)))
        self.assertTrue(same(saving(bare(), "main"), (0,)))
        expected = (IN, ("less", 0, 1), ("if", "out"), PUSH, ("call", "f"), POP, ("mark", "out"), BACK)
        made = linked(bare=bare())
        self.assertTrue(same(made["f"], expected))
        self.assertEqual(made["main"], (PUSH, ("call", "f"), POP, ("out", 0), BACK))
        self.assertIs(type(made), Program)

    def test_functions_without_calls(self):
        for lines in ([IN, BACK], [BACK], [STOP], [IN, ("if", "a"), ("out", 0), ("mark", "a"), ("tail", "main")]):
            self.assertEqual(self.told(*lines), ((), 0, tuple(lines)))
        program = BareProgram.of(("in", 0), STOP)
        self.assertEqual(linked(program), Program.of(("in", 0), STOP))
        self.assertTrue(same(saving_paper(program, "main"), ((), ())))

    def test_calls_in_a_row(self):
        self.assertEqual(self.told(CALL, CALL, BACK), ((0, 1), 2, (PUSH, CALL, CALL, POP, BACK)))
        self.assertEqual(self.told(CALL, IN, CALL, BACK), ((0, 1, 2), 2, (PUSH, CALL, IN, CALL, POP, BACK)))
        self.assertEqual(self.told(IN, CALL, IN, BACK), ((1,), 2, (IN, PUSH, CALL, POP, IN, BACK)))

    def test_callr(self):
        lines = [("addr", 2, "g"), ("callr", 2), BACK]
        self.assertEqual(self.told(*lines), ((1,), 2, (lines[0], PUSH, lines[1], POP, BACK)))

    def test_stops(self):
        self.assertEqual(self.told(IN, CALL, IN, STOP), ((1, 2, 3), 1, (IN, PUSH, CALL, IN, STOP)))
        self.assertEqual(self.told(CALL, STOP), ((0, 1), 1, (PUSH, CALL, STOP)))

    def test_tails(self):
        self.assertEqual(self.told(CALL, ("tail", "main")), ((0,), 2, (PUSH, CALL, POP, ("tail", "main"))))
        self.assertEqual(self.told(CALL, ("in", 1), ("tail", "f"))[2], (PUSH, CALL, POP, ("in", 1), ("tail", "f")))

    def test_a_loop_around_a_call(self):
        lines = [("mark", "a"), CALL, ("in", 1), ("if", "a"), CALL, BACK]
        self.assertEqual(self.told(*lines), ((0, 1, 2, 3, 4), 2, (PUSH, *lines[:5], POP, BACK)))
        lines = [("mark", "a"), CALL, ("in", 1), ("if", "a"), BACK]
        self.assertEqual(self.told(*lines), ((1,), 2, (lines[0], PUSH, CALL, POP, *lines[2:])))
        lines = [IN, ("mark", "a"), ("in", 1), ("if", "a"), CALL, BACK]
        self.assertEqual(self.told(*lines), ((4,), 2, (*lines[:4], PUSH, CALL, POP, BACK)))
        lines = [IN, ("mark", "a"), CALL, ("jump", "a")]
        self.assertEqual(self.told(*lines), ((1, 2, 3), 1, (IN, PUSH, *lines[1:])))

    def test_a_loop_that_is_left_on_one_side(self):
        lines = [("mark", "a"), ("less", 0, 1), ("if", "b"), CALL, ("jump", "a"), ("mark", "b"), ("out", 0), BACK]
        self.assertEqual(self.told(*lines)[:2], ((3,), 2))
        lines.insert(1, CALL)
        self.assertEqual(self.told(*lines)[:2], ((0, 1, 2, 3, 4, 5, 6), 2))
        self.assertEqual(self.told(*lines)[2], (PUSH, *lines[:7], POP, *lines[7:]))

    def test_branches_and_their_marks(self):
        lines = [IN, ("if", "a"), CALL, ("mark", "a"), CALL, BACK]
        self.assertEqual(self.told(*lines)[:2], ((1, 2, 3, 4), 2))
        lines = [IN, ("if", "a"), CALL, ("mark", "a"), IN, BACK]
        self.assertEqual(self.told(*lines)[:2], ((2,), 2))
        lines = [IN, ("if", "a"), CALL, STOP, ("mark", "a"), BACK]
        self.assertEqual(self.told(*lines)[:2], ((2, 3), 1))
        lines = [IN, ("if", "a"), CALL, ("jump", "b"), ("mark", "a"), CALL, ("mark", "b"), BACK]
        self.assertEqual(self.told(*lines)[:2], ((1, 2, 3, 4, 5, 6), 2))

    def test_marks_of_several_jumps(self):
        lines = [IN, ("if", "a"), CALL, ("if", "a"), CALL, ("unless", "a"), CALL, ("mark", "a"), BACK]
        self.assertEqual(self.told(*lines)[:2], ((1, 2, 3, 4, 5, 6, 7), 2))

    def test_steps_between_a_branch_and_its_own_mark(self):
        lines = [IN, ("if", "a"), ("mark", "a"), CALL, BACK]
        self.assertEqual(self.told(*lines)[2], (*lines[:3], PUSH, CALL, POP, BACK))
        lines = [("mark", "a"), ("if", "a"), CALL, BACK]
        self.assertEqual(self.told(*lines)[2], (*lines[:2], PUSH, CALL, POP, BACK))
        program = with_callee(*lines)
        self.assertIs(is_saving(program, "f", ((2,), ((-1, 0, 1, 2), (3, 2)))), True)

    def test_steps_between_branches_of_one_label(self):
        lines = [CALL, ("if", "a"), ("if", "a"), IN, ("mark", "a"), BACK]
        self.assertEqual(self.told(*lines)[:2], ((0,), 2))
        program = with_callee(*lines)
        self.assertIs(is_saving(program, "f", ((0,), ((-1, 0), (5, 4, 2, 1, 0)))), True)
        self.assertIs(is_saving(program, "f", ((0,), ((-1, 0), (5, 4, 2, 1, 2, 4, 1, 0)))), False)

    def test_a_push_at_the_way_in_and_ahead_of_a_mark(self):
        lines = [("mark", "a"), CALL, ("if", "a"), CALL, BACK]
        self.assertEqual(self.told(*lines)[2], (PUSH, *lines[:4], POP, BACK))
        lines = [IN, ("mark", "a"), CALL, ("if", "a"), CALL, ("mark", "b"), IN, ("if", "b"), BACK]
        self.assertEqual(self.told(*lines)[2], (IN, PUSH, *lines[1:5], POP, *lines[5:]))

    def test_several_least_choices(self):
        lines = [IN, IN, CALL, IN, BACK]
        self.assertEqual(self.told(*lines)[:2], ((2,), 2))
        program = with_callee(*lines)
        ways = saving_paper(program, "f")[1]
        for saved in ((2,), (1, 2), (0, 1, 2), (2, 3), (1, 2, 3), (0, 1, 2, 3)):
            self.assertIs(is_saving(program, "f", (saved, ways)), True)
        for saved in ((), (1,), (0, 2), (2, 4), (0, 1, 2, 3, 4), (2, 5), (-1, 2), (3, 2), (2, 2), (2, 3, 3), [2],
                      (True, 2), (2.0,), ("2",), (None,), {2: 2}, ((2,),)):
            self.assertIs(is_saving(program, "f", (saved, ways)), False, saved)

    def test_paper(self):
        self.assertTrue(same(saving_paper(bare=bare(), name="f"), PAPER))
        self.assertIs(is_saving(bare=bare(), name="f", value=PAPER), True)
        ways = PAPER[1]
        for changed in ((ways[0],), (*ways, ways[0]), (ways[0], ways[0]), (ways[1], ways[1]), (), ways[0],
                        (ways[0], ways[1][::-1]), (ways[0][::-1], ways[1]), (ways[0][1:], ways[1]), list(ways),
                        (ways[0], list(ways[1])), (ways[0], (5, 3)), (ways[0], (5, 4)), (ways[0], (4, 3)),
                        (ways[0], (3,)), (ways[0], (5,)), (ways[0], ()), (ways[0], (5, 4, 3, 3)),
                        (ways[0], (5, 5, 4, 3)), (ways[0], (5, 4, 3, 4, 3)), (ways[0], (5, 6, 5, 4, 3)),
                        (ways[0], (5, 4, None, 3)), (ways[0], (5, 4, "3")), (ways[0], (5, 4, 3.0)), None,
                        ((-1, False, 1, 2, 3), ways[1]), ((-1, 0, True, 2, 3), ways[1]), (ways[0], (5, -1, 3)),
                        ((-2, -1, 0, 1, 2, 3), ways[1]), (ways[0], (-1, 0, 1, 2, 4, 3)), ({}, []), (ways[0], None)):
            self.assertIs(is_saving(bare(), "f", ((3,), changed)), False, changed)

    def test_ways_that_are_as_good(self):
        # Ties between a branch and its mark may be gone along by several ways, and there and back.
        for ways in (((5, 4, 3), (-1, 0, 1, 2, 3)), ((5, 4, 2, 3), (-1, 0, 1, 2, 4, 3)),
                     ((-1, 0, 1, 2, 4, 2, 3), (5, 4, 3)), ((-1, 0, 1, 2, 4, 3), (5, 4, 2, 3)),
                     ((-1, 0, 1, 2, 4, 2, 4, 2, 3), (5, 4, 2, 4, 3))):
            self.assertIs(is_saving(bare(), "f", ((3,), ways)), True, ways)
        self.assertIs(is_saving(bare(), "f", ((3,), ((-1, 0, 1, 2, 3), (5, 4, 2, 3)))), False)

    def test_ways_through_calls_and_backs(self):
        program = with_callee(CALL, IN, CALL, BACK)
        self.assertIs(is_saving(program, "f", ((0, 1, 2), ((-1, 0, 1, 2), (3, 2)))), True)
        self.assertIs(is_saving(program, "f", ((0, 1, 2), ((-1, 0), (3, 2, 1, 0)))), True)
        self.assertIs(is_saving(program, "f", ((0, 1, 2), ((-1, 0, 1, 2), (3, 2, 1, 0)))), False)
        self.assertIs(is_saving(program, "f", ((0, 2), ((-1, 0), (3, 2)))), False)

    def test_a_step_behind_a_jump_is_none(self):
        lines = [IN, ("if", "a"), CALL, ("jump", "b"), ("mark", "a"), IN, ("mark", "b"), BACK]
        program = with_callee(*lines)
        self.assertEqual(self.told(*lines)[:2], ((2,), 2))
        self.assertIs(is_saving(program, "f", ((2,), ((-1, 0, 1, 2), (7, 6, 3, 2)))), True)
        self.assertIs(is_saving(program, "f", ((2,), ((-1, 0, 1, 2), (7, 6, 5, 4, 3, 2)))), False)
        self.assertIs(is_saving(program, "f", ((2,), ((7, 6, 5, 4, 1, 2), (-1, 0, 1, 4, 1, 2)))), False)

    def test_a_choice_that_is_not_least(self):
        program = with_callee(CALL, ("in", 1), ("in", 2), CALL, BACK)
        self.assertEqual(saving(program, "f"), (0, 1, 2, 3))
        paper = ((0, 3), ((-1, 0), (4, 3), (-1, 0, 1), (4, 3, 2)))
        self.assertIs(is_saving(program, "f", paper), False)
        self.assertIs(is_saving(program, "f", ((0, 3), ((-1, 0), (4, 3)))), False)

    def test_choices_that_are_none(self):
        program = with_callee(CALL, IN, CALL, BACK)
        way_in, way_out = (-1, 0), (3, 2)
        for saved, ways in (((0, 1, 2, 3), (way_in,)), ((0,), (way_in, way_out)), ((2,), (way_in, way_out)), ((), ()),
                            ((1,), (way_in, way_out)), ((0, 2, 3), (way_in,)), ((-1, 0, 1, 2), (way_out,))):
            self.assertIs(is_saving(program, "f", (saved, ways)), False, saved)
        self.assertIs(is_saving(program, "f", ((0, 1, 2), (way_in, way_out))), True)
        program = with_callee(IN, ("if", "a"), CALL, ("mark", "a"), CALL, BACK)
        for saved in ((2, 3, 4), (1, 2, 4), (2, 4)):
            for ways in (((-1, 0, 1, 2), (5, 4)), ((-1, 0, 1, 3, 4), (5, 4)),
                         ((-1, 0, 1, 2), (5, 4), (-1, 0, 1, 2), (5, 4))):
                self.assertIs(is_saving(program, "f", (saved, ways)), False)
        for saved in ((1, 2, 3, 4), (0, 1, 2, 3, 4)):
            self.assertIs(is_saving(program, "f", (saved, ((-1, 0, 1, 2), (5, 4)))), True)

    def test_any_value(self):
        for value in (*ANY_VALUES, PAPER[0], PAPER[1], (*PAPER, ()), PAPER[:1], list(PAPER), PAPER[::-1], (None, None)):
            self.assertIs(is_saving(bare(), "f", value), False)
            if value != PAPER[0]:
                self.assertIs(is_saving(bare(), "f", (value, PAPER[1])), False)
            self.assertIs(is_saving(bare(), "f", (PAPER[0], value)), value == PAPER[1])
            self.assertIs(is_saving(bare(), "f", (PAPER[0], (PAPER[1][0], value))), False)
            self.assertIs(is_saving(bare(), "f", (PAPER[0], (PAPER[1][0], (5, value, 3)))), False)
            self.assertIs(is_saving(bare(), "f", ((value,), PAPER[1])), False)

    def test_unknown_names(self):
        for value in ANY_VALUES:
            if value != "main":
                for action in (saving, saving_paper, lambda program, name: is_saving(program, name, None)):
                    with self.assertRaises(UnknownName) as caught:
                        action(bare(), value)
                    self.assertTrue(same(caught.exception.value, value))

    def test_runs_come_back_as_they_did(self):
        program = BareProgram({
            "main": [("addr", 2, "f"), IN, ("callr", 2), ("out", 1), ("same", 0, 5), ("if", "e"), ("call", "f"),
                     ("mark", "e"), ("out", 1), ("tail", "f")],
            "f": [("less", 0, 5), ("if", "d"), ("num", 3, 1), ("sub", 0, 0, 3), ("add", 1, 1, 0), ("out", 0),
                  ("same", 0, 4), ("if", "d"), ("call", "f"), ("out", 1), ("callr", 0), ("mark", "d"), BACK]})
        made = linked(program)
        self.assertTrue(is_right(made))
        for inputs in ([0], [1], [2], [3], [-1], [7]):
            self.assertTrue(run_alike(program, made, inputs, 300))

    def test_more_than_the_limits(self):
        program = BareProgram({"main": [("call", "f"), *[IN] * 58, STOP], "f": [*[CALL, IN] * 29, CALL, BACK],
                               "g": [IN, BACK]})
        made = linked(program)
        self.assertTrue(is_right(made))
        self.assertEqual((len(made["f"]), len(made["main"])), (62, 61))

    def test_arguments_stay(self):
        program = bare()
        linked(program)
        saving_paper(program, "f")
        self.assertEqual(program, bare())


class NotSweptTest(unittest.TestCase):
    def test_programs_that_are_not_swept(self):
        for plain in not_swept():
            program = BareProgram(plain.functions)
            self.assertRaises(NotSwept, linked, program)
            for value in (*ANY_VALUES, PAPER):
                self.assertRaises(NotSwept, saving, program, value)
                self.assertRaises(NotSwept, saving_paper, program, value)
                self.assertRaises(NotSwept, is_saving, program, value, value)
                self.assertRaises(NotSwept, is_saving, program, "main", value)
