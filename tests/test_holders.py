import unittest

from foldlines.errors import NotSwept, UnknownPlace
from foldlines.holders import goals, holds, shown
from foldlines.programs import Program
from samples import ANY_VALUES, rings, same, seen, twice

BACK = [("back",)]
FUNCTIONS = {"f": BACK, "g": BACK, "h": BACK}
ALL = (("addr", 5, "h"), ("addr", 5, "g"), ("addr", 5, "f"))


def program_of(*lines):
    """A swept program with these lines, in which register 5 holds the functions f, g and h."""
    return Program({"main": [*lines, *ALL, ("stop",)], **FUNCTIONS})


class HoldsTest(unittest.TestCase):
    def test_nothing_is_held(self):
        told = holds(rings())
        self.assertTrue(same(told, {0: (), 1: (), 2: (), 3: (), 4: (), 5: (), "stack": ()}))

    def test_addresses(self):
        expected = {0: (), 1: (), 2: (), 3: (), 4: (), 5: ("f", "g", "h"), "stack": ()}
        self.assertTrue(same(holds(program=program_of()), expected))
        self.assertTrue(same(list(holds(program_of())), [0, 1, 2, 3, 4, 5, "stack"]))
        self.assertEqual(holds(seen())[0], ("a",))
        self.assertEqual(holds(seen())[1], ("b",))

    def test_copies(self):
        told = self.held(("addr", 0, "g"), ("copy", 1, 0), ("copy", 2, 1))
        self.assertEqual((told[0], told[1], told[2], told[3]), (("g",), ("g",), ("g",), ()))

    def test_copies_the_other_way_around(self):
        told = self.held(("copy", 2, 1), ("copy", 1, 0), ("addr", 0, "g"))
        self.assertEqual((told[0], told[1], told[2], told["stack"]), (("g",), ("g",), ("g",), ()))
        told = self.held(("copy", 0, 1), ("addr", 0, "g"))
        self.assertEqual((told[0], told[1]), (("g",), ()))

    def test_copies_in_a_ring(self):
        told = self.held(("copy", 0, 1), ("copy", 1, 2), ("copy", 2, 0), ("addr", 1, "g"), ("addr", 2, "f"))
        self.assertEqual((told[0], told[1], told[2]), (("f", "g"),) * 3)
        self.assertEqual(self.held(("copy", 0, 0), ("addr", 0, "f"))[0], ("f",))

    def test_pushes_and_pops(self):
        told = self.held(("addr", 0, "g"), ("push", 0), ("pop", 1))
        self.assertEqual((told["stack"], told[1], told[2]), (("g",), ("g",), ()))
        told = self.held(("push", 1), ("addr", 0, "g"), ("pop", 0))
        self.assertEqual((told["stack"], told[0], told[1]), ((), ("g",), ()))

    def test_reads_and_writes(self):
        told = self.held(("push", 1), ("addr", 0, "g"), ("write", 0, 0), ("read", 3, 0))
        self.assertEqual((told["stack"], told[0], told[1], told[3]), (("g",), ("g",), (), ("g",)))
        told = self.held(("push", 5), ("read", 3, 0))
        self.assertEqual((told["stack"], told[3], told[0]), (("f", "g", "h"), ("f", "g", "h"), ()))
        told = self.held(("push", 1), ("push", 1), ("write", 1, 0), ("addr", 0, "f"), ("read", 4, 0), ("write", 0, 2))
        self.assertEqual((told["stack"], told[1], told[2], told[4]), (("f",), (), (), ("f",)))

    def test_links_are_not_held(self):
        told = self.held(("addr", 0, "g"), ("push", 0), ("pop", 0), ("push", "link"), ("pop", "link"))
        self.assertEqual((told["stack"], told[1]), (("g",), ()))

    def test_other_lines_hold_nothing(self):
        told = self.held(("addr", 0, "g"), ("add", 1, 0, 0), ("sub", 1, 0, 0), ("mul", 1, 0, 0), ("same", 1, 0),
                         ("less", 1, 0), ("num", 0, 5), ("in", 2), ("out", 3))
        self.assertEqual((told[0], told[1], told[2], told[3], told["stack"]), (("g",), (), (), (), ()))

    def test_all_functions_count(self):
        program = Program({"main": [("addr", 0, "g"), ("call", "f"), ("stop",)], "f": [("copy", 1, 0), ("back",)],
                           "g": [("addr", 2, "main"), ("back",)]})
        self.assertEqual(holds(program), {0: ("g",), 1: ("g",), 2: ("main",), 3: (), 4: (), 5: (), "stack": ()})

    def test_the_returned_dict_is_new(self):
        program = program_of()
        holds(program).clear()
        self.assertEqual(len(holds(program)), 7)

    def held(self, *lines):
        return holds(program_of(*lines))


class GoalsTest(unittest.TestCase):
    def test_goals(self):
        program = Program({"main": [("addr", 1, "g"), ("addr", 1, "f"), ("call", "h"), ("callr", 1), ("callr", 0),
                                    ("push", 1), ("mark", "a"), ("if", "a"), ("stop",)],
                           "f": [("tail", "g")], "g": BACK, "h": [("out", 0), ("back",)]})
        expected = {("main", 2): ("h",), ("main", 3): ("f", "g"), ("f", 0): ("g",)}
        for place, _ in program.places():
            self.assertTrue(same(goals(program, place), expected.get(place, ())))
            self.assertTrue(same(goals(program=program, place=place), expected.get(place, ())))

    def test_unknown_places(self):
        program = twice()
        wrong = [value for value in ANY_VALUES if value != ("main", 0)]
        wrong += [("main", 6), ("main", -1), ("double", 2), ("gone", 0), ("main", True), ("main", False),
                  ("main", None), ("main", "0"), ("main", 0, 0), ("main",), [("main", 0)], (("main", 0),), (0, "main"),
                  (["main"], 0), ("main", [0]), ("main", 10 ** 59), ({}, {}), "main", ["main", 0], (None, 0)]
        for value in wrong:
            with self.subTest(value):
                with self.assertRaises(UnknownPlace) as caught:
                    goals(program, value)
                self.assertTrue(same(caught.exception.value, value))
        self.assertEqual((goals(program, ("main", 5)), goals(program, ("double", 1))), ((), ()))


class ShownTest(unittest.TestCase):
    def test_shown(self):
        self.assertTrue(same(shown(program=seen()), ("a", "b")))
        self.assertEqual(shown(rings()), ())
        self.assertEqual(shown(program_of()), ())

    def test_registers_that_are_not_compared(self):
        self.assertEqual(self.told(("addr", 0, "f"), ("addr", 1, "g"), ("less", 0, 1)), ())
        self.assertEqual(self.told(("addr", 0, "f"), ("addr", 1, "g"), ("same", 2, 3)), ())

    def test_both_registers_hold_functions(self):
        self.assertEqual(self.told(("addr", 0, "f"), ("same", 0, 1)), ())
        self.assertEqual(self.told(("addr", 0, "f"), ("same", 1, 0)), ())
        self.assertEqual(self.told(("addr", 0, "g"), ("addr", 1, "f"), ("same", 0, 1)), ("f", "g"))
        self.assertEqual(self.told(("addr", 0, "f"), ("addr", 1, "f"), ("same", 1, 0)), ("f",))
        self.assertEqual(self.told(("addr", 0, "f"), ("same", 0, 5)), ("f", "g", "h"))

    def test_a_register_beside_itself(self):
        self.assertEqual(self.told(("addr", 0, "f"), ("same", 0, 0)), ("f",))
        self.assertEqual(self.told(("same", 0, 0)), ())

    def test_several_lines(self):
        self.assertEqual(self.told(("addr", 0, "h"), ("addr", 1, "f"), ("addr", 2, "g"), ("same", 0, 0), ("same", 1, 3),
                                   ("same", 1, 1)), ("f", "h"))

    def test_lines_of_other_functions(self):
        program = Program({"main": [("addr", 0, "f"), ("addr", 1, "g"), ("callr", 0), ("stop",)],
                           "f": [("same", 0, 1), ("back",)], "g": BACK})
        self.assertEqual(shown(program), ("f", "g"))

    def told(self, *lines):
        return shown(program_of(*lines))


class NotSweptTest(unittest.TestCase):
    def test_programs_that_are_not_swept(self):
        stop = ("stop",)
        for functions in ({"main": [stop], "f": BACK}, {"main": [stop, stop]}, {"main": [("mark", "a"), stop]},
                          {"main": [stop, ("call", "f")], "f": BACK},
                          {"main": [("in", 0), ("mark", "a"), stop, ("if", "a")]}):
            program = Program(functions)
            for action in (holds, shown, lambda program: goals(program, ("main", 0))):
                self.assertRaises(NotSwept, action, program)
            for value in ANY_VALUES:
                self.assertRaises(NotSwept, goals, program, value)
