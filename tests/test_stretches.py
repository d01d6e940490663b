import unittest

from foldlines.errors import InvalidStretch, NotSwept, UnknownName
from foldlines.programs import Program
from foldlines.stretches import reason
from samples import ANY_VALUES, not_swept, same, twice

STOP = ("stop",)
BACK = ("back",)


def told(lines, first, many):
    program = Program({"main": [("call", "f"), STOP], "f": [*lines, BACK] if lines[-1] not in (BACK, STOP) else lines})
    return reason(program, "f", first, many)


class ReasonTest(unittest.TestCase):
    def test_none(self):
        self.assertIs(reason(program=twice(), name="main", first=0, many=1), None)
        self.assertIs(reason(twice(), "double", 0, 2), None)
        self.assertIs(reason(twice(), "main", 2, 1), None)
        self.assertIs(told([("num", 0, 100), ("copy", 1, 0), ("add", 0, 1, 2), ("sub", 0, 1, 2), ("mul", 0, 1, 2),
                            ("addr", 0, "f"), ("same", 0, 1), ("less", 0, 1), ("in", 0), ("out", 0)], 0, 11), None)

    def test_jump(self):
        lines = [("in", 0), ("mark", "a"), ("if", "b"), ("out", 0), ("unless", "a"), ("jump", "b"), ("mark", "b"),
                 ("in", 0)]
        for at in range(8):
            self.assertEqual(told(lines, at, 1), None if at in (0, 3, 7) else "jump")
        self.assertTrue(same(told(lines, 0, 2), "jump"))
        self.assertEqual(told(lines, 6, 2), "jump")
        self.assertIs(told(lines, 7, 2), None)

    def test_end(self):
        lines = [("in", 0), ("if", "a"), ("out", 0), STOP, ("mark", "a"), BACK]
        self.assertIs(told(lines, 2, 1), None)
        self.assertIs(told(lines, 2, 2), None)
        self.assertEqual(told(lines, 2, 3), "jump")
        lines = [("in", 0), ("if", "a"), ("if", "b"), ("out", 0), STOP, ("mark", "a"), BACK, ("mark", "b"),
                 ("tail", "f")]
        program = Program({"main": [("call", "f"), STOP], "f": lines})
        for first, end in ((4, STOP), (6, BACK), (8, ("tail", "f"))):
            self.assertEqual(program["f"][first], end)
            self.assertIs(reason(program, "f", first, 1), None)

    def test_what_comes_behind_an_end_is_always_a_mark(self):
        program = Program.of(("in", 0), ("if", "a"), STOP, ("mark", "a"), STOP)
        self.assertEqual(reason(program, "main", 2, 2), "jump")
        self.assertEqual(reason(program, "main", 2, 3), "jump")

    def test_link_lines(self):
        lines = [("push", "link"), ("in", 0), ("pop", "link")]
        self.assertEqual([told(lines, first, 1) for first in range(4)], ["stack", None, "stack", None])
        self.assertEqual([told(lines, 0, many) for many in range(1, 5)], ["stack"] * 4)
        self.assertEqual(told(lines, 1, 2), "stack")

    def test_entries_of_others(self):
        lines = [("push", 0), ("push", 1), ("read", 2, 0), ("read", 2, 1), ("write", 0, 3), ("write", 1, 3), ("pop", 0),
                 ("pop", 0)]
        self.assertIs(told(lines, 0, 8), None)
        for first, many in ((1, 6), (2, 1), (3, 1), (4, 1), (5, 1), (6, 1), (7, 1), (1, 3), (6, 2)):
            self.assertEqual(told(lines, first, many), "stack", (first, many))
        for line, right in ((("read", 2, 0), True), (("read", 2, 1), False), (("write", 0, 2), True),
                            (("write", 1, 2), False)):
            self.assertEqual(told([("push", 0), ("push", 0), line, ("pop", 0), ("pop", 0)], 1, 3),
                             None if right else "stack")
        self.assertEqual(told([("push", 0), ("push", 0), ("pop", 0), ("pop", 0), ("in", 0)], 1, 3), "stack")

    def test_entries_that_are_left(self):
        lines = [("push", 0), ("in", 1), ("push", 1), ("pop", 2), ("pop", 3)]
        self.assertEqual([told(lines, 0, many) for many in range(1, 7)], ["stack"] * 4 + [None] * 2)
        self.assertIs(told(lines, 2, 2), None)
        lines = [("push", 0), ("push", 0), STOP]
        self.assertEqual([told(lines, 0, many) for many in range(1, 4)], ["stack", "stack", None])

    def test_frame(self):
        lines = [("push", 0), ("in", 1), STOP]
        self.assertEqual([told(lines, first, 3 - first) for first in range(3)], [None, "frame", "frame"])
        lines = [("call", "main"), ("in", 1), STOP]
        self.assertEqual([told(lines, first, 3 - first) for first in range(3)], [None, "frame", "frame"])
        lines = [("push", "link"), ("call", "main"), ("pop", "link"), ("in", 0), STOP]
        self.assertEqual([told(lines, first, 5 - first) for first in range(5)], ["stack"] * 3 + [None] * 2)
        self.assertEqual(told([("push", "link"), ("in", 0), STOP], 1, 2), "frame")
        self.assertEqual([told(lines, first, 4 - first) for first in range(4)], ["stack"] * 3 + [None])

    def test_what_comes_first(self):
        lines = [("push", 0), ("in", 0), ("if", "a"), STOP, ("mark", "a"), ("pop", 0), STOP]
        self.assertEqual(told(lines, 0, 7), "jump")
        self.assertEqual(told(lines, 2, 2), "jump")
        self.assertEqual(told(lines, 5, 2), "stack")
        self.assertEqual(told(lines, 5, 1), "stack")
        self.assertEqual(told(lines, 3, 1), "frame")
        self.assertIs(told(lines, 6, 1), None)

    def test_own_on_all_ways(self):
        lines = [("in", 0), ("if", "a"), ("call", "main"), ("mark", "a"), ("in", 0), STOP]
        self.assertEqual(told(lines, 4, 2), "frame")
        lines[2] = ("in", 2)
        self.assertIs(told(lines, 4, 2), None)

    def test_unknown_names(self):
        for value in ANY_VALUES:
            if value != "main":
                for first, many in ((0, 1), (None, None)):
                    with self.assertRaises(UnknownName) as caught:
                        reason(twice(), value, first, many)
                    self.assertTrue(same(caught.exception.value, value))

    def test_wrong_stretches(self):
        wrong = [(0, 0), (0, -1), (-1, 1), (6, 1), (5, 2), (0, 7), (3, 4), (10 ** 59, 1), (0, 10 ** 59), (False, 1),
                 (0, True), (True, True), (None, 1), (0, None), ("0", 1), (0, "1"), ([0], 1), (0, (1,)), (-6, 6),
                 (6, 0)]
        wrong += [(value, 1) for value in ANY_VALUES if type(value) is not int]
        wrong += [(0, value) for value in ANY_VALUES if type(value) is not int]
        for first, many in wrong:
            with self.assertRaises(InvalidStretch) as caught:
                reason(twice(), "main", first, many)
            self.assertTrue(same(caught.exception.value, (first, many)))
        self.assertIs(reason(twice(), "main", 5, 1), None)
        self.assertEqual(reason(twice(), "main", 0, 6), "stack")

    def test_not_swept(self):
        for program in not_swept():
            for value in ANY_VALUES:
                self.assertRaises(NotSwept, reason, program, value, value, value)
                self.assertRaises(NotSwept, reason, program, "main", value, value)
