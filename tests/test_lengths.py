import unittest

import reference_more as more
from foldlines.errors import NotSwept
from foldlines.lengths import laid_size, lengths
from foldlines.programs import Program
from samples import loop, not_swept, same, twice

STOP = ("stop",)
OUT = ("out", 0)


class LengthsTest(unittest.TestCase):
    def told(self, *lines):
        """The lengths of the jumps and branches of main, in the order in which they stand."""
        program = Program.of(*lines)
        value = lengths(program)
        expected = more.lengths(program["main"])
        self.assertTrue(same(value, {("main", at): length for at, length in expected.items()}))
        self.assertEqual(laid_size(program), program.size - list(value.values()).count(1))
        return list(value.values())

    def test_lengths(self):
        self.assertTrue(same(lengths(program=loop()), {("main", 3): 1}))
        self.assertTrue(same(laid_size(program=loop()), 4))
        self.assertTrue(same(lengths(twice()), {}))
        self.assertTrue(same(laid_size(twice()), 9))

    def test_gaps_of_fifteen_and_of_sixteen(self):
        for word in ("if", "unless"):
            self.assertEqual(self.told((word, "a"), *[OUT] * 15, ("mark", "a"), STOP), [1])
            self.assertEqual(self.told((word, "a"), *[OUT] * 16, ("mark", "a"), STOP), [2])
            self.assertEqual(self.told(("mark", "a"), *[OUT] * 14, (word, "a"), STOP), [1])
            self.assertEqual(self.told(("mark", "a"), *[OUT] * 15, (word, "a"), STOP), [2])
        self.assertEqual(self.told(("mark", "a"), *[OUT] * 14, ("jump", "a")), [1])
        self.assertEqual(self.told(("mark", "a"), *[OUT] * 15, ("jump", "a")), [2])

    def test_other_lines_take_their_size(self):
        for line, size in ((("num", 0, 100), 3), (("num", 0, 1), 1), (("addr", 0, "main"), 3), (("call", "main"), 2)):
            for rest in (13, 12, 14, 15):
                lines = [("if", "a"), line, *[OUT] * rest, ("mark", "a"), STOP]
                self.assertEqual(self.told(*lines), [1 if size + rest <= 15 else 2])

    def test_marks_take_nothing(self):
        lines = [("if", "a"), *[OUT] * 15, ("mark", "b"), ("mark", "a"), OUT, ("if", "b"), STOP]
        self.assertEqual(self.told(*lines), [1, 1])

    def test_jumps_to_what_is_next_and_to_themselves(self):
        self.assertEqual(self.told(("if", "a"), ("mark", "a"), STOP), [1])
        self.assertEqual(self.told(("mark", "a"), ("jump", "a")), [1])

    def test_jumps_over_jumps(self):
        self.assertEqual(self.told(("if", "a"), ("if", "a"), *[OUT] * 14, ("mark", "a"), STOP), [1, 1])
        self.assertEqual(self.told(("if", "a"), ("if", "a"), *[OUT] * 15, ("mark", "a"), STOP), [2, 1])
        self.assertEqual(self.told(("if", "a"), ("if", "b"), *[OUT] * 14, ("mark", "a"), OUT, ("mark", "b"), STOP),
                         [1, 1])
        self.assertEqual(self.told(("if", "a"), ("if", "b"), *[OUT] * 14, ("mark", "a"), OUT, OUT, ("mark", "b"), STOP),
                         [2, 2])

    def test_jumps_that_become_short_only_together(self):
        # Each one stands between the other one and its mark.
        lines = [("if", "a"), *[OUT] * 7, ("mark", "b"), *[OUT] * 7, ("if", "b"), ("mark", "a"), STOP]
        self.assertEqual(self.told(*lines), [1, 1])
        self.assertEqual(self.told(*lines[:1], OUT, *lines[1:]), [2, 1])
        lines = [("if", "a"), *[OUT] * 2, ("mark", "b"), *[OUT] * 12, ("if", "b"), ("mark", "a"), STOP]
        self.assertEqual(self.told(*lines), [1, 1])
        lines = [("if", "a"), ("mark", "b"), *[OUT] * 14, ("if", "b"), ("mark", "a"), STOP]
        self.assertEqual(self.told(*lines), [1, 1])
        lines = [("if", "a"), ("mark", "b"), *[OUT] * 15, ("if", "b"), ("mark", "a"), STOP]
        self.assertEqual(self.told(*lines), [2, 2])

    def test_chains_of_long_ones(self):
        lines = [("mark", "z"), OUT]
        for label in "abcd":
            lines += [("if", label), *[OUT] * 3]
        for label in "abcd":
            lines += [("mark", label), *[OUT] * 3]
        self.assertEqual(self.told(*lines, ("if", "z"), STOP), [1, 1, 1, 1, 2])
        self.assertEqual(self.told(*lines[:9], OUT, OUT, *lines[9:], ("if", "z"), STOP)[4], 2)

    def test_several_functions(self):
        far = [("if", "a"), *[OUT] * 16, ("mark", "a"), STOP]
        program = Program({"main": [("call", "f"), *far], "f": loop()["main"]})
        self.assertTrue(same(lengths(program), {("f", 3): 1, ("main", 1): 2}))
        self.assertEqual(laid_size(program), program.size - 1)

    def test_more_than_the_limits(self):
        program = Program.of_any_size({"main": [("mark", "a"), *[OUT] * 3000, ("if", "a"), STOP]})
        self.assertEqual(lengths(program), {("main", 3001): 2})

    def test_programs_that_are_not_swept(self):
        for program in not_swept():
            self.assertRaises(NotSwept, lengths, program)
            self.assertRaises(NotSwept, laid_size, program)
