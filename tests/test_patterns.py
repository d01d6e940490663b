import unittest

import reference_more as more
from foldlines.errors import InvalidLines, InvalidName, InvalidPlaces, NotSwept, SameName
from foldlines.facts import wanted
from foldlines.patterns import best_near, near_gain, outlined_near
from foldlines.programs import Program
from samples import ANY_VALUES, again, is_right, not_swept, run_alike, same, twice

STOP = ("stop",)
BACK = ("back",)
PUSH = ("push", "link")
POP = ("pop", "link")
REST = [("add", 1, 0, 0), ("mul", 1, 1, 0), ("out", 1), ("in", 2), ("out", 2)]
PATTERN = (("num", 0, None), *REST)


def pieces(*numbers, rest=REST):
    return [line for number in numbers for line in (("num", 0, number), *rest)]


# Lists of lines that are no patterns, or none that may be called.
NO_PATTERNS = (
    [("num", 0, 1)], [("in", 0)], [("num", 0, None)] * 2, [("num", 0, None), ("num", 1, None)], [("num", 6, None)],
    [("num", True, None)], [("num", None, 0)], [("num", None, None)], [("num", 0, None, None)], [["num", 0, None]],
    [("copy", 0, None)], [("addr", 0, None)], [("read", 0, None)], [("none", 0, None)], [(None, 0, None)],
    [([], 0, None)], [("num", 0)], [("num", 0, None), None], [("num", 0, None), ("in", 6)],
    [("num", 0, None), ("call", "f")], [("num", 0, None), ("callr", 0)], [("callr", 0), ("num", 0, None)],
    [("num", 0, None), BACK], [("num", 0, None), STOP], [("num", 0, None), ("tail", "f")],
    [("num", 0, None), ("mark", "a")], [("jump", "a"), ("num", 0, None)], [("if", "a"), ("num", 0, None)],
    [("num", 0, None), ("unless", "a")], [PUSH, ("num", 0, None), POP], [("num", 0, None), POP],
    [("push", 0), ("num", 0, None)], [("num", 0, None), ("pop", 0)], [("num", 0, None), ("read", 0, 0)],
    [("push", 0), ("num", 0, None), ("write", 1, 0), ("pop", 0)], ("num", 0, None), {("num", 0, None): 1}, "num",
    [("num", 0, False)], [("num", 0, "None")], [("num", 0, 2 ** 31), ("num", 0, None)],
)


class NearGainTest(unittest.TestCase):
    def told(self, program, pattern):
        value = near_gain(program, pattern)
        self.assertTrue(same(value, more.near_gain(program.functions, tuple(pattern))))
        if value is not None and value[2]:
            made = outlined_near(program, "zz", pattern)
            self.assertTrue(is_right(made))
            self.assertEqual(program.size - made.size, value[0])
            self.assertEqual(made.functions, more.outlined_near(program.functions, "zz", tuple(pattern)))
            for inputs in ([], [3, 4, 5, 6, 7], [0, 1]):
                self.assertTrue(run_alike(program, made, inputs, 99))
        return value

    def test_near_gain(self):
        program = Program.of(*pieces(1, 2, 100), STOP)
        expected = (3 * 3 - 7, 3, (("main", 0), ("main", 6), ("main", 12)))
        self.assertTrue(same(near_gain(program=program, pattern=PATTERN), expected))
        self.assertTrue(same(near_gain(program, list(PATTERN)), expected))
        self.assertEqual(self.told(program, PATTERN), expected)

    def test_the_same_number_everywhere(self):
        self.assertEqual(self.told(Program.of(*pieces(5, 5), STOP), PATTERN)[:2], (-1, 3))

    def test_no_place_and_one_place(self):
        self.assertEqual(self.told(Program.of(*REST, STOP), PATTERN), (-7, 3, ()))
        self.assertEqual(self.told(Program.of(*pieces(1, 2), STOP), [("num", 3, None), *REST]), (-7, 4, ()))
        self.assertEqual(self.told(Program.of(*pieces(1), STOP), PATTERN), (-4, 3, (("main", 0),)))

    def test_sites_that_save_nothing(self):
        lines = [("num", 0, None), ("out", 0)]
        self.assertEqual(self.told(Program.of(*pieces(1, 2, 3, rest=[("out", 0)]), STOP), lines), (-3, 1, ()))
        lines.append(("out", 0))
        self.assertEqual(self.told(Program.of(*pieces(1, 2, 3, rest=lines[1:]), STOP), lines), (-4, 1, ()))
        lines.append(("out", 0))
        self.assertEqual(self.told(Program.of(*pieces(1, 2, 3, rest=lines[1:]), STOP), lines)[0], 3 - 5)
        self.assertEqual(self.told(Program.of(("num", 0, 5), ("num", 0, 6), STOP), lines[:1]), (-2, 1, ()))

    def test_sizes_of_the_numbers_do_not_count(self):
        for numbers in ((1, 2, 3), (100, 200, 300), (-8, 8, 2 ** 31 - 1)):
            self.assertEqual(self.told(Program.of(*pieces(*numbers), STOP), PATTERN)[0], 2)
        rest = [("num", 1, 100), ("out", 1), ("out", 0)]
        self.assertEqual(near_gain(Program.of(*pieces(1, 2, rest=rest), STOP), [("num", 0, None), *rest])[0], 2 * 3 - 7)

    def test_places_that_overlap(self):
        lines = [("num", 0, 1), ("num", 0, 2)] * 6
        program = Program.of(*lines, ("out", 0), STOP)
        pattern = [("num", 0, 1), ("num", 0, None), ("num", 0, 1), ("num", 0, 2), ("num", 0, 1)]
        self.assertEqual(self.told(program, pattern)[2], (("main", 0), ("main", 6)))
        self.assertEqual(self.told(program, pattern[:-1])[2], (("main", 0), ("main", 4), ("main", 8)))

    def test_where_the_number_stands(self):
        lines = [("in", 1), ("num", 0, 3), ("num", 0, 4), ("out", 0), ("out", 1), ("out", 0)]
        program = Program.of(*lines, *lines[:2], ("num", 0, 5), *lines[3:], STOP)
        self.assertEqual(self.told(program, [*lines[:2], ("num", 0, None), *lines[3:]])[2], (("main", 0), ("main", 6)))
        self.assertEqual(self.told(program, [*lines[:1], ("num", 0, None), *lines[2:]])[2], (("main", 0),))

    def test_no_free_register(self):
        pattern = [("num", 0, None), ("add", 0, 1, 2), ("mul", 3, 4, 5)]
        program = Program.of(*pieces(1, 2, rest=pattern[1:]), ("out", 0), STOP)
        self.assertIs(self.told(program, pattern), None)
        with self.assertRaises(InvalidPlaces) as caught:
            outlined_near(program, "g", pattern)
        self.assertTrue(same(caught.exception.value, ()))
        for line in (("add", 4, 5, 5), ("same", 4, 5), ("less", 4, 5), ("copy", 4, 5), ("sub", 4, 5, 4)):
            self.assertIs(self.told(program, [("num", 0, None), ("add", 1, 2, 3), line]), None)

    def test_registers_of_each_line(self):
        for line in (("num", 1, 0), ("in", 1), ("out", 1), ("copy", 1, 0), ("copy", 0, 1), ("addr", 1, "g"),
                     ("same", 0, 1), ("less", 1, 0), ("add", 0, 0, 1), ("sub", 0, 1, 0), ("mul", 1, 0, 0)):
            self.assertEqual(near_gain(again(), [("num", 0, None), line])[1], 2, line)
        for line in (("num", 0, 1), ("in", 0), ("out", 0), ("copy", 0, 0), ("addr", 0, "g"), ("same", 0, 2)):
            self.assertEqual(near_gain(again(), [line, ("num", 2, None)])[1], 1, line)
        entries = [("push", 1), ("push", 1), ("read", 1, 0), ("write", 0, 1), ("pop", 1), ("pop", 1)]
        self.assertEqual(near_gain(again(), [("num", 0, None), *entries])[1], 2)
        entries = [("push", 1), ("push", 1), ("read", 1, 0), ("write", 1, 2), ("pop", 1), ("pop", 1)]
        self.assertEqual(near_gain(again(), [("num", 0, None), *entries])[1], 3)
        entries = [("push", 1), ("push", 1), ("read", 1, 1), ("write", 1, 1), ("pop", 4), ("pop", 3)]
        self.assertEqual(near_gain(again(), [("num", 0, None), *entries])[1], 2)

    def test_registers_that_are_wanted_ahead_of_some_places(self):
        lines = [("in", 3), *pieces(1, 2), ("out", 3), ("in", 4), *pieces(3, 4, 5), ("out", 4), *pieces(6), STOP]
        program = Program.of(*lines)
        self.assertEqual(self.told(program, PATTERN)[:2], (5 * 0 + 6 * 3 - 7, 5))
        lines = [("in", 5), *lines[:-1], ("out", 5), STOP]
        self.assertEqual(self.told(Program.of(*lines), PATTERN)[:2], (4 * 3 - 7, 3))
        self.assertEqual([place for _, place in self.told(Program.of(*lines), PATTERN)[2]], [16, 22, 28, 35])
        lines = [line for line in lines if line != ("in", 4)]
        self.assertEqual(self.told(Program.of(*lines), PATTERN)[:2], (4 * 3 - 7, 3))
        self.assertEqual(self.told(Program.of(("in", 3), ("in", 4), ("in", 5), *pieces(1, 2), ("out", 3), ("out", 4),
                                              ("out", 5), STOP), PATTERN), (-7, 3, ()))

    def test_the_fewest_sites(self):
        # Register 3 is free at the three places of which the two outer ones overlap with the one in the middle.
        rest = [("num", 0, 1), ("num", 0, 1), ("num", 0, 1), ("num", 0, 1), ("num", 0, 1)]
        pattern = [("num", 0, None), *rest[:3]]
        for many in range(4, 10):
            self.told(Program.of(*[("num", 0, 1)] * many, ("out", 0), STOP), pattern)
        # With the link wanted at one of them, two sites save as much as one.
        text = [("num", 0, 1), *[("out", 0)] * 5]
        program = Program({"main": [("call", "f"), ("call", "f"), STOP],
                           "f": [("in", 1), *text, ("if", "a"), *text, ("out", 1), *text, STOP, ("mark", "a"), BACK]})
        value = self.told(program, [("num", 0, None), *text[1:]])
        self.assertEqual(value, (1 + 3 + 3 - 7, 2, (("f", 1), ("f", 8), ("f", 15))))

    def test_the_fewest_sites_and_then_the_least_register(self):
        # Where the link is wanted a site saves 2 instead of 4: register 1 has two of those, the others one of 4.
        text = [("num", 0, 1), *[("out", 0)] * 6]
        back = [("in", 2), ("in", 3), ("in", 4), ("in", 5), *text, *text, ("out", 2), ("out", 3), ("out", 4),
                ("out", 5), BACK]
        stop = [("in", 1), *text, ("out", 1), STOP]
        program = Program({"main": [("call", "f"), *stop], "f": back})
        self.assertEqual(self.told(program, [("num", 0, None), *text[1:]]), (4 - 8, 2, (("main", 2),)))

    def test_sites_with_the_link(self):
        program = Program({"main": [("call", "f"), *pieces(1), STOP],
                           "f": [*pieces(2), PUSH, *pieces(3), ("call", "g"), POP, BACK], "g": [*pieces(4), BACK]})
        value = self.told(program, PATTERN)
        self.assertEqual(value, (1 + 3 + 1 + 3 - 7, 3, (("f", 0), ("f", 7), ("g", 0), ("main", 1))))
        made = outlined_near(program, "h", PATTERN)
        self.assertEqual(made["f"], (("num", 3, 2), PUSH, ("call", "h"), POP, PUSH, ("num", 3, 3), ("call", "h"),
                                     ("call", "g"), POP, BACK))
        self.assertEqual(made["h"], (("copy", 0, 3), *REST, BACK))

    def test_entries_in_patterns(self):
        rest = [("push", 0), ("num", 0, 5), ("out", 0), ("read", 1, 0), ("out", 1), ("pop", 0)]
        program = Program.of(*pieces(1, 2, 3, rest=rest), ("out", 0), STOP)
        self.assertEqual(self.told(program, [("num", 0, None), *rest])[0], 3 * 4 - 8)

    def test_wrong_patterns(self):
        for value in (*ANY_VALUES, *NO_PATTERNS):
            with self.assertRaises(InvalidLines, msg=value) as caught:
                near_gain(again(), value)
            self.assertTrue(same(caught.exception.value, value))
            self.assertRaises(InvalidLines, outlined_near, again(), "g", value)

    def test_arguments_stay(self):
        pattern = list(PATTERN)
        near_gain(again(), pattern)
        self.assertEqual(pattern, list(PATTERN))


class BestNearTest(unittest.TestCase):
    def told(self, *lines, **functions):
        program = Program({"main": lines, **functions})
        told = best_near(program)
        self.assertTrue(same(told, more.best_near(program.functions)))
        if told is not None:
            self.assertEqual(near_gain(program, told[0])[0], told[1])
        return told

    def test_best_near(self):
        program = Program.of(*pieces(1, 2, 100), STOP)
        self.assertTrue(same(best_near(program=program), (PATTERN, 2)))
        self.assertEqual(self.told(*pieces(1, 2, 100), STOP), (PATTERN, 2))

    def test_none(self):
        self.assertIs(best_near(twice()), None)
        self.assertIs(self.told(*pieces(1, 2), STOP), None)
        self.assertIs(self.told(STOP), None)
        self.assertIs(self.told(*REST, *REST, *REST, STOP), None)
        self.assertIs(self.told(("in", 3), ("in", 4), ("in", 5), *pieces(1, 2, 3, 4), ("out", 3), ("out", 4),
                                ("out", 5), STOP), None)

    def test_the_number_that_stands_first(self):
        lines = [("num", 0, 1), ("num", 1, 2), *REST[2:], ("out", 0), ("out", 1), ("out", 0)]
        pattern, _ = self.told(*lines * 3, STOP)
        self.assertEqual(pattern, (("num", 0, None), *lines[1:]))

    def test_the_number_that_differs(self):
        lines = [("num", 0, 1), ("num", 1, 2), *REST[2:], ("out", 0), ("out", 1), ("out", 0)]
        pattern, number = self.told(*lines, *lines[:1], ("num", 1, 7), *lines[2:], *lines, STOP)
        self.assertEqual(pattern, (lines[0], ("num", 1, None), *lines[2:]))
        # With one of the two that differ, one or the other way, there is no gain.
        self.assertIs(self.told(*lines, ("num", 0, 4), ("num", 1, 7), *lines[2:], STOP), None)

    def test_the_most_lines(self):
        # Longer by a line that saves nothing more: four sites save 3 each, or two save 10 each.
        text = [("num", 0, 1), *[("out", 0), ("out", 1)] * 4]
        told = self.told(*text, *text, ("in", 5), *text[:6], ("in", 5), *text[:6], STOP)
        self.assertEqual(told, more.best_near({"main": (*text, *text, ("in", 5), *text[:6], ("in", 5), *text[:6],
                                                        STOP)}))
        one = [("num", 0, 1), *[("out", 0)] * 6]
        other = [("num", 1, 1), *[("out", 1)] * 6]
        self.assertEqual(self.told(*other, *other, *other, *one, *one, *one, STOP)[0][0], ("num", 1, None))
        self.assertEqual(self.told(*one, *one, *one, *other, *other, *other, STOP)[0][0], ("num", 0, None))

    def test_gains_of_one_and_of_none(self):
        rest = [("out", 0)] * 6
        self.assertEqual(self.told(*pieces(1, 2, rest=[("out", 0), *rest]), STOP)[1], 1)
        self.assertIs(self.told(*pieces(1, 2, rest=rest), STOP), None)
        # Register 3 is free at the first two of three places, register 4 at the last two, and no other one at any.
        for many in (6, 7, 8, 9):
            rest = [("out", 0)] * many
            told = self.told(("in", 1), ("in", 2), ("in", 4), ("in", 5), *pieces(1, rest=rest), ("out", 4),
                             *pieces(2, rest=rest), ("in", 3), *pieces(3, rest=rest), ("out", 3), ("out", 1),
                             ("out", 2), ("out", 5), STOP)
            self.assertEqual(told, None if many == 6 else ((("num", 0, None), *rest), many - 6))

    def test_as_many_lines_and_an_earlier_place(self):
        one = [("num", 0, 1), *[("out", 0)] * 7]
        other = [("out", 1), ("num", 1, 1), *[("out", 1)] * 6]
        lines = [*other, ("in", 2), *other, ("in", 3), *one, ("in", 4), *one, STOP]
        self.assertEqual(self.told(*lines), ((("out", 1), ("num", 1, None), *other[2:]), 1))
        lines = [*one, ("in", 2), *one, ("in", 3), *other, ("in", 4), *other, STOP]
        self.assertEqual(self.told(*lines), ((("num", 0, None), *one[1:]), 1))

    def test_more_lines_that_gain_as_much_where_less_might_be_gained(self):
        # The short lines stand at three places, of which no register is free at more than two.
        short = [("num", 0, 1), ("num", 5, 1000), *[("out", 0)] * 2, ("out", 5), ("out", 0)]
        many = [("num", 0, 1), *[("out", 0)] * 7]
        lines = [("in", 1), ("in", 2), ("in", 4), *short, ("out", 4), *short, ("in", 3), *short, ("out", 3),
                 *many, ("in", 3), *many, ("out", 1), ("out", 2), STOP]
        self.assertEqual(self.told(*lines), ((("num", 0, None), *many[1:]), 1))

    def test_lines_behind_which_the_link_is_wanted(self):
        rest = [("out", 0)] * 12
        program = [("call", "f"), STOP]
        self.assertEqual(self.told(*program, f=[*pieces(1, 2, 3, rest=rest[:8]), BACK])[1], 3 * 4 - 10)
        self.assertEqual(self.told(*program, f=[*pieces(1, 2, rest=rest), BACK])[1], 2 * 8 - 14)
        self.assertIs(self.told(*program, f=[*pieces(1, 2, rest=rest[:10]), BACK]), None)
        self.assertEqual(self.told(*program, f=[*pieces(1, 2, rest=rest[:11]), BACK])[1], 1)

    def test_each_register_that_may_be_free(self):
        for key in range(1, 6):
            wanted_ones = [other for other in range(1, 6) if other != key]
            lines = [*(("in", other) for other in wanted_ones), *pieces(1, 2, rest=[("out", 0)] * 9),
                     *(("out", other) for other in wanted_ones), STOP]
            self.assertEqual(self.told(*lines)[1], 3)
            self.assertEqual(near_gain(Program.of(*lines), [("num", 0, None), *[("out", 0)] * 9])[1], key)
        lines = [("in", 1), ("in", 3), ("in", 4), ("in", 5),
                 *[line for number in (1, 2) for line in (("num", 2, number), *[("out", 2)] * 9)],
                 ("out", 1), ("out", 3), ("out", 4), ("out", 5), STOP]
        self.assertEqual(self.told(*lines)[1], 3)

    def test_a_flag_that_is_wanted(self):
        rest = [("out", 0)] * 9
        lines = [line for number in (1, 2)
                 for line in (("less", number, 3), *pieces(number, rest=rest), ("if", "e"))]
        self.assertEqual(self.told(*lines, ("out", 5), ("mark", "e"), STOP)[1], 3)

    def test_the_first_place_of_the_best_ones(self):
        one = [("num", 0, 1), *[("out", 0)] * 6]
        other = [("num", 1, 1), *[("out", 1)] * 6]
        told = self.told(*other, *one, *other, *one, *other, *one, STOP)
        self.assertEqual(told[0][0][0], "num")
        program = {"main": [("call", "f"), ("call", "g"), ("call", "g"), ("call", "f"), STOP],
                   "f": [*one * 3, STOP], "g": [*other * 3, STOP]}
        self.assertEqual(self.told(*program["main"], f=program["f"], g=program["g"])[0][0], ("num", 0, None))
        self.assertEqual(self.told(*program["main"], f=program["g"], g=program["f"])[0][0], ("num", 1, None))

    def test_registers_that_are_wanted(self):
        lines = [("in", 3), ("in", 4), *pieces(1, 2), ("out", 3), ("out", 4), *pieces(3), ("in", 5), *pieces(4, 5),
                 ("out", 5), *pieces(6), STOP]
        self.assertEqual(self.told(*lines), (PATTERN, 5))


class OutlinedNearTest(unittest.TestCase):
    def test_outlined_near(self):
        program = Program.of(*pieces(1, -2, 100), STOP)
        made = outlined_near(program=program, name="g", pattern=PATTERN)
        self.assertIs(type(made), Program)
        self.assertTrue(same(made.functions, {
            "g": (("copy", 0, 3), *REST, BACK),
            "main": (("num", 3, 1), ("call", "g"), ("num", 3, -2), ("call", "g"), ("num", 3, 100), ("call", "g"),
                     STOP)}))
        self.assertEqual(outlined_near(program, "g", list(PATTERN)), made)

    def test_the_register_is_free_where_it_is_not_wanted(self):
        program = Program.of(("in", 3), ("out", 3), *pieces(1, 2, 3), ("in", 4), *pieces(4), ("out", 4), STOP)
        self.assertEqual(wanted(program, ("main", 2)), ())
        made = outlined_near(program, "g", PATTERN)
        self.assertEqual(made["main"][2:4], (("num", 3, 1), ("call", "g")))
        self.assertTrue(run_alike(program, made, [9, 8, 7, 6, 5, 4], 99))

    def test_more_than_the_limits(self):
        names = ["f" + chr(97 + at) for at in range(23)]
        program = Program({"main": [*(("call", name) for name in names), *pieces(1, 2, 3), STOP],
                           **{name: [BACK] for name in names}})
        made = outlined_near(program, "g", PATTERN)
        self.assertTrue(is_right(made))
        self.assertEqual(len(made), 25)

    def test_no_places(self):
        for program, pattern in ((again(), PATTERN), (Program.of(*pieces(1, 2, 3), STOP), PATTERN[:3])):
            with self.assertRaises(InvalidPlaces) as caught:
                outlined_near(program, "g", pattern)
            self.assertTrue(same(caught.exception.value, ()))

    def test_one_place(self):
        program = Program.of(*pieces(1), STOP)
        self.assertEqual(outlined_near(program, "g", PATTERN)["main"], (("num", 3, 1), ("call", "g"), STOP))

    def test_wrong_names(self):
        for value in (*ANY_VALUES, "Main", "nineteens"):
            if value not in ("main", "m", "link", "stop"):
                with self.assertRaises(InvalidName) as caught:
                    outlined_near(again(), value, None)
                self.assertTrue(same(caught.exception.value, value))
        for name in ("main", "double"):
            with self.assertRaises(SameName) as caught:
                outlined_near(twice(), name, None)
            self.assertTrue(same(caught.exception.name, name))
        self.assertRaises(InvalidLines, outlined_near, twice(), "g", [STOP])


class NotSweptTest(unittest.TestCase):
    def test_programs_that_are_not_swept(self):
        for program in not_swept():
            self.assertRaises(NotSwept, best_near, program)
            for value in (*ANY_VALUES, PATTERN):
                self.assertRaises(NotSwept, near_gain, program, value)
                self.assertRaises(NotSwept, outlined_near, program, value, value)
                self.assertRaises(NotSwept, outlined_near, program, "g", value)
