import unittest

from foldlines.errors import InvalidPlaces, InvalidTable, NotSwept
from foldlines.facts import known
from foldlines.passes import cheaper, dropped
from foldlines.programs import Program
from foldlines.runs import run
from samples import ANY_VALUES, facts, is_right, not_swept, rings, same, twice

STOP = ("stop",)
BACK = ("back",)


class CheaperTest(unittest.TestCase):
    def told(self, *lines):
        program = Program.of(*lines, STOP)
        made = cheaper(program)
        self.assertTrue(is_right(made))
        self.assertLessEqual(made.size, program.size)
        self.assertEqual(run(made, [3, 4], 99)[:2], run(program, [3, 4], 99)[:2])
        return list(made["main"][:-1])

    def test_cheaper(self):
        made = cheaper(program=facts())
        self.assertTrue(same(made.functions, {
            "f": (("num", 2, 7), BACK),
            "main": (("num", 0, 100), ("call", "f"), ("copy", 1, 0), ("out", 1), STOP)}))
        self.assertIs(type(made), Program)
        self.assertEqual(cheaper(rings()), rings())
        self.assertEqual(cheaper(facts(), None), made)

    def test_numbers_that_are_there_go(self):
        for number in (0, 7, -8, 8, -9, 2 ** 31 - 1):
            self.assertEqual(self.told(("num", 3, number), ("out", 3), ("num", 3, number), ("out", 3)),
                             [("num", 3, number), ("out", 3), ("out", 3)])
        self.assertEqual(self.told(("num", 3, 5), ("num", 3, 6)), [("num", 3, 5), ("num", 3, 6)])

    def test_only_long_numbers_become_copies(self):
        for number in (7, -8, 0, 1):
            lines = [("num", 3, number), ("num", 2, number)]
            self.assertEqual(self.told(*lines), lines)
        for number in (8, -9, 2 ** 31 - 1, -(2 ** 31)):
            self.assertEqual(self.told(("num", 3, number), ("num", 2, number)), [("num", 3, number), ("copy", 2, 3)])

    def test_the_least_register_of_several(self):
        lines = [("num", 5, 100), ("num", 2, 100), ("num", 4, 100), ("num", 1, 100), ("num", 3, 100)]
        expected = [("num", 5, 100), ("copy", 2, 5), ("copy", 4, 2), ("copy", 1, 2), ("copy", 3, 1)]
        self.assertEqual(self.told(*lines), expected)

    def test_the_register_itself_first(self):
        lines = [("num", 1, 100), ("copy", 2, 1), ("num", 2, 100)]
        self.assertEqual(self.told(*lines), lines[:2])

    def test_zero_is_not_known_at_the_beginning(self):
        self.assertEqual(self.told(("num", 0, 0)), [("num", 0, 0)])

    def test_all_at_once(self):
        self.assertEqual(self.told(("num", 0, 100), ("num", 1, 100), ("num", 2, 100), ("num", 0, 100)),
                         [("num", 0, 100), ("copy", 1, 0), ("copy", 2, 0)])

    def test_tables_that_know_less(self):
        program = facts()
        table = known(program)
        del table[("main", 2)][0]
        del table[("main", 3)][0]
        del table[("main", 4)][0]
        self.assertEqual(cheaper(program, table), program)
        self.assertEqual(cheaper(program=program, table={place: {} for place in table}), program)
        self.assertEqual(cheaper(program, known(program)), cheaper(program))

    def test_wrong_tables(self):
        table = known(facts())
        table[("main", 2)][3] = 8
        bools = {("main", 0): {}, ("main", 1): {0: True}}
        for value in (*ANY_VALUES, table):
            if value is not None:
                with self.assertRaises(InvalidTable) as caught:
                    cheaper(facts(), value)
                self.assertTrue(same(caught.exception.value, value))
        self.assertRaises(InvalidTable, cheaper, Program.of(("num", 0, 1), STOP), bools)

    def test_arguments_stay(self):
        program, table = facts(), known(facts())
        cheaper(program, table)
        self.assertEqual((program, table), (facts(), known(facts())))


class DroppedTest(unittest.TestCase):
    def test_dropped(self):
        made = dropped(program=facts())
        self.assertTrue(same(made.functions, {
            "f": (BACK,), "main": (("call", "f"), ("num", 1, 100), ("out", 1), STOP)}))
        self.assertTrue(is_right(made))
        self.assertEqual(dropped(facts(), None), made)
        self.assertEqual(dropped(twice()), twice())

    def test_some_places(self):
        self.assertEqual(dropped(facts(), []), facts())
        self.assertEqual(dropped(program=facts(), places=(("main", 0),))["main"], facts()["main"][1:])
        self.assertEqual(dropped(facts(), [("main", 0), ("f", 0)]), dropped(facts()))
        self.assertEqual(dropped(facts(), (("f", 0), ("main", 0))), dropped(facts()))

    def test_swept_behind(self):
        program = Program({"main": [("addr", 0, "f"), STOP], "f": [BACK]})
        self.assertEqual(dropped(program).functions, {"main": (STOP,)})

    def test_lines_in_loops(self):
        program = Program.of(("mark", "a"), ("copy", 0, 1), ("copy", 1, 0), ("in", 2), ("same", 2, 3), ("unless", "a"),
                             STOP)
        self.assertEqual(dropped(program)["main"], (("mark", "a"), *program["main"][3:]))
        self.assertRaises(InvalidPlaces, dropped, program, [("main", 1)])

    def test_wrong_places(self):
        wrong = [value for value in ANY_VALUES if value not in (None, (), [])]
        wrong += [[("main", 2)], [("main", 0), ("main", 0)], [("main", 1)], [["main", 0]], ("main", 0),
                  [("main", False)], [("main", 0), ("main", 2)], {("main", 0): True}]
        for value in wrong:
            with self.assertRaises(InvalidPlaces) as caught:
                dropped(facts(), value)
            self.assertTrue(same(caught.exception.value, value))

    def test_arguments_stay(self):
        program, places = facts(), [("main", 0), ("f", 0)]
        dropped(program, places)
        self.assertEqual((program, places), (facts(), [("main", 0), ("f", 0)]))


class NotSweptTest(unittest.TestCase):
    def test_programs_that_are_not_swept(self):
        for program in not_swept():
            for action in (cheaper, dropped):
                self.assertRaises(NotSwept, action, program)
                for value in ANY_VALUES:
                    self.assertRaises(NotSwept, action, program, value)
