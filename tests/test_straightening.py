import unittest

from foldlines.errors import NotSwept
from foldlines.programs import Program
from foldlines.straightening import straightened
from samples import is_right, not_swept, rings, run_alike, same, twice

STOP = ("stop",)


class StraightenedTest(unittest.TestCase):
    def told(self, *lines):
        """The lines of the straightened program, held against the runs of the one before."""
        program = Program.of(*lines)
        made = straightened(program)
        self.assertTrue(is_right(made))
        self.assertLessEqual(made.size, program.size)
        for inputs in ([], [1], [0, 1, 5, 0], [-1, -1, 7]):
            self.assertTrue(run_alike(program, made, inputs, 60))
        self.assertEqual(straightened(made), made)
        return list(made["main"])

    def test_nothing_to_do(self):
        for program in (twice(), rings()):
            made = straightened(program=program)
            self.assertTrue(same(made.functions, program.functions))
            self.assertIs(type(made), Program)
        for lines in ([("mark", "a"), ("in", 0), ("out", 0), ("jump", "a")],
                      [("in", 0), ("less", 0, 1), ("if", "a"), ("out", 0), ("mark", "a"), ("out", 1), STOP],
                      [("mark", "a"), ("in", 0), ("less", 0, 1), ("if", "a"), STOP]):
            self.assertEqual(self.told(*lines), lines)

    def test_jumps_to_jumps(self):
        for word in ("if", "unless"):
            lines = [("in", 0), ("less", 0, 1), (word, "a"), ("out", 0), STOP, ("mark", "a"), ("jump", "b"),
                     ("mark", "c"),
                     ("out", 0), ("mark", "b"), ("out", 1), ("in", 1), ("less", 1, 0), ("if", "c"), STOP]
            self.assertEqual(self.told(*lines), [*lines[:2], (word, "b"), *lines[3:5], *lines[7:]])
        lines = [("in", 0), ("jump", "a"), ("mark", "d"), ("out", 0), ("less", 0, 1), ("if", "b"), STOP, ("mark", "a"),
                 ("jump", "b"), ("mark", "b"), ("out", 1), ("jump", "d")]
        self.assertEqual(self.told(*lines), [("in", 0), ("jump", "b"), *lines[2:7], *lines[9:]])

    def test_chains_of_jumps_and_marks(self):
        names = [word + "x" * at for at in range(7) for word in "mn"]
        head = [("in", 0), ("less", 0, 1)]
        end = [("out", 0), STOP]
        chain = [line for at in reversed(range(1, 7)) for line in
                 (("mark", "m" + "x" * at), ("mark", "n" + "x" * at), ("jump", "n" + "x" * (at - 1)))]
        lines = [*head, *(("if", name) for name in names), *end, *chain, ("mark", "m"), ("mark", "n"), ("out", 1), STOP]
        expected = [*head, ("if", "m"), *[("if", "n")] * 13, *end, ("mark", "m"), ("mark", "n"), ("out", 1), STOP]
        self.assertEqual(self.told(*lines), expected)

    def test_rings_of_jumps(self):
        lines = [("in", 0), ("less", 0, 1), ("if", "a"), STOP, ("mark", "a"), ("jump", "a")]
        self.assertEqual(self.told(*lines), lines)
        head = lines[:2]
        for many in range(2, 8):
            names = ["m" + "x" * at for at in range(many)]
            ring = [(("mark", name), ("jump", names[(at + 1) % many])) for at, name in enumerate(names)]
            ahead = [line for pair in ring for line in pair]
            back = [line for pair in reversed(ring) for line in pair]
            self.assertEqual(self.told(*head, ("if", "m"), STOP, *ahead),
                             [*head, ("if", "m"), STOP, ahead[0], ("jump", "m")])
            expected = [*head, ("if", "m"), STOP, *back]
            if many == 2:
                del expected[5]
            self.assertEqual(self.told(*head, ("if", "m"), STOP, *back), expected)

    def test_a_jump_that_comes_into_a_ring(self):
        lines = [("in", 0), ("less", 0, 1), ("if", "a"), ("out", 0), STOP, ("mark", "a"), ("jump", "b"), ("mark", "c"),
                 ("jump", "b"), ("mark", "b"), ("jump", "c")]
        self.assertEqual(self.told(*lines)[:3], [("in", 0), ("less", 0, 1), ("if", "a")])

    def test_jumps_to_what_is_next(self):
        for word in ("jump", "if", "unless"):
            lines = [("in", 0), (word, "a"), ("mark", "a"), ("out", 0), STOP]
            self.assertEqual(self.told(*lines), [("in", 0), ("out", 0), STOP])
            lines = [("in", 0), ("mark", "b"), (word, "a"), ("mark", "c"), ("mark", "a"), ("out", 0), ("in", 1),
                     ("same", 1, 2),
                     ("if", "b"), ("less", 1, 2), ("if", "c"), STOP]
            self.assertEqual(self.told(*lines), [lines[0], lines[1], lines[3], *lines[5:]])

    def test_jumps_back_are_not_next(self):
        lines = [("in", 0), ("mark", "a"), ("in", 1), ("same", 1, 0), ("if", "a"), STOP]
        self.assertEqual(self.told(*lines), lines)
        lines = [("in", 0), ("mark", "a"), ("if", "a"), STOP]
        self.assertEqual(self.told(*lines), lines)
        self.assertEqual(self.told(("mark", "a"), ("jump", "a")), [("mark", "a"), ("jump", "a")])

    def test_branches_over_jumps_alone(self):
        for word, other in (("if", "unless"), ("unless", "if")):
            lines = [("mark", "b"), ("in", 0), ("less", 0, 1), (word, "a"), ("jump", "b"), ("mark", "a"), ("out", 0),
                     STOP]
            self.assertEqual(self.told(*lines), [*lines[:3], (other, "b"), *lines[6:]])
            lines = [("mark", "b"), ("in", 0), ("less", 0, 1), (word, "a"), ("jump", "b"), ("mark", "c"), ("mark", "a"),
                     ("out", 0), ("same", 0, 1), ("if", "c"), STOP]
            self.assertEqual(self.told(*lines), [*lines[:3], (other, "b"), ("mark", "c"), *lines[7:]])

    def test_branches_over_more_than_jumps(self):
        lines = [("mark", "b"), ("in", 0), ("less", 0, 1), ("if", "a"), ("out", 1), ("jump", "b"), ("mark", "a"),
                 ("out", 0),
                 STOP]
        self.assertEqual(self.told(*lines), lines)
        lines = [("mark", "b"), ("in", 0), ("less", 0, 1), ("if", "a"), ("mark", "c"), ("jump", "b"), ("mark", "a"),
                 ("out", 0),
                 ("same", 0, 1), ("if", "d"), STOP, ("mark", "d"), ("in", 2), ("less", 2, 1), ("if", "c"), STOP]
        # The mark goes only behind the branch that named it, so that the branch over the jump is turned at last.
        expected = [*lines[:3], ("unless", "b"), *lines[7:14], ("if", "b"), STOP]
        self.assertEqual(self.told(*lines), expected)

    def test_a_jump_between_is_no_branch(self):
        lines = [("mark", "b"), ("in", 0), ("less", 0, 1), ("if", "c"), ("jump", "a"), ("mark", "c"), ("jump", "b"),
                 ("mark", "a"), ("out", 0), STOP]
        # The first rule fits first, at the if, which then no more jumps over the jump; what is next goes at last.
        self.assertEqual(self.told(*lines), [*lines[:3], ("if", "b"), ("out", 0), STOP])

    def test_the_first_rule_is_followed_before_the_third(self):
        lines = [("in", 0), ("less", 0, 1), ("mark", "d"), ("if", "a"), ("jump", "b"), ("mark", "a"), ("jump", "c"),
                 ("mark", "b"), ("out", 0), ("same", 0, 1), ("if", "d"), STOP, ("mark", "c"), ("out", 1), ("jump", "d")]
        self.assertEqual(self.told(*lines), [*lines[:3], ("if", "c"), *lines[8:]])

    def test_the_first_rule_is_followed_before_the_second(self):
        lines = [("in", 0), ("less", 0, 1), ("if", "a"), ("mark", "a"), ("jump", "b"), ("mark", "c"), ("out", 0),
                 ("mark", "b"), ("out", 1), ("less", 1, 0), ("if", "c"), STOP]
        self.assertEqual(self.told(*lines), [("in", 0), ("less", 0, 1), ("if", "b"), ("jump", "b"), *lines[5:]])

    def test_a_ring_leaves_the_second_and_the_third_rule(self):
        lines = [("in", 0), ("less", 0, 1), ("if", "a"), ("mark", "a"), ("jump", "a")]
        self.assertEqual(self.told(*lines), [("in", 0), ("less", 0, 1), ("mark", "a"), ("jump", "a")])
        lines = [("mark", "b"), ("in", 0), ("less", 0, 1), ("if", "a"), ("jump", "b"), ("mark", "a"), ("jump", "a")]
        self.assertEqual(self.told(*lines), [*lines[:3], ("unless", "b"), *lines[5:]])

    def test_the_least_place_comes_first(self):
        lines = [("in", 0), ("less", 0, 1), ("if", "a"), ("jump", "b"), ("mark", "a"), ("out", 0), ("mark", "b"), STOP]
        self.assertEqual(self.told(*lines), [("in", 0), ("less", 0, 1), ("unless", "b"), ("out", 0), ("mark", "b"),
                                             STOP])
        lines = [("in", 0), ("less", 0, 1), ("if", "a"), ("jump", "a"), ("mark", "a"), ("out", 0), STOP]
        self.assertEqual(self.told(*lines), [("in", 0), ("less", 0, 1), ("out", 0), STOP])

    def test_again_behind_sweeping(self):
        lines = [("in", 0), ("jump", "a"), ("mark", "b"), ("jump", "c"), ("mark", "a"), ("less", 0, 1), ("if", "b"),
                 STOP,
                 ("mark", "c"), ("out", 0), STOP]
        self.assertEqual(self.told(*lines), [("in", 0), ("less", 0, 1), ("if", "c"), STOP, *lines[8:]])

    def test_functions_that_nothing_names_any_more(self):
        program = Program({"main": [("in", 0), ("if", "a"), ("mark", "a"), ("addr", 1, "f"), STOP],
                           "f": [("jump", "a"), ("mark", "a"), ("back",)]})
        made = straightened(program)
        self.assertEqual(made.functions, {"main": (("in", 0), ("addr", 1, "f"), STOP), "f": (("back",),)})
        self.assertEqual(program["f"], (("jump", "a"), ("mark", "a"), ("back",)))

    def test_not_swept(self):
        for program in not_swept():
            self.assertRaises(NotSwept, straightened, program)
